import PyProof.Rows.All
import Wide.All
import OpenK.AllK
import Wide.FinOn
import PyProof.EqAt
import PyProof.EqKinds
import PyProof.TupleCall
import KE.BitLaws
import Open.SpecLaws
import KE.OsHead
import KE.OsGo
import KE.KSortKeyAny
import KE.KSortTupAny
import PyProof.Rows.SortG.SortRunsSt
import KE.KSortTupG
import PyProof.MeetsSeq3
import PyProof.Rows.CallKwBuiltin
import VbcjajSpec
import PyVbcjaj
import PySem.Challenge.RW0_cueshows_s01_answers
import PySem.Challenge.RW_cueshows_s01_answers
set_option Elab.async false
set_option maxRecDepth 100000
set_option maxHeartbeats 8000000
set_option linter.all false
section
set_option Elab.async false
set_option linter.all false
set_option maxRecDepth 100000
namespace L2
open PySem PySem.Spec PyProof.Rows
abbrev Key:=Sum Int Str
def keyIs:Key→Value→Bool
  | .inl k,v=>Value.isInt k v
  | .inr x,v=>Value.isStrOf x v
def keyH (w:World):Key→Int
  | .inl k=>hashInt k
  | .inr x=>hashStr w x
theorem keyIs_shape:∀ {k:Key} {v:Value},keyIs k v=true→(∃ i t,k=Sum.inl i∧v=Value.int i t)∨(∃ x t,k=Sum.inr x∧v=Value.str x t)
  | .inl i,v,h=>by
    obtain ⟨t,e⟩:=Value.isInt_shape (k:=i) (v:=v) h
    exact .inl ⟨i,t,rfl,e⟩
  | .inr x,v,h=>by
    obtain ⟨t,e⟩:=Value.isStrOf_shape (x:=x) (v:=v) h
    exact .inr ⟨x,t,rfl,e⟩
theorem keyIs_int (i:Int) (t:Tok):keyIs (.inl i) (.int i t)=true:=by simp [keyIs,Value.isInt]
theorem keyIs_str (x:Str) (t:Tok):keyIs (.inr x) (.str x t)=true:=by simp [keyIs,Value.isStrOf]
theorem key_ll (a b:Int):decide ((Sum.inl a:Key)=Sum.inl b)=(a == b):=by
  by_cases e:a=b
  · subst e;simp
  · have h:¬ (Sum.inl a:Key)=Sum.inl b:=fun q=>e (Sum.inl.inj q)
    rw [decide_eq_false h]
    exact (beq_eq_false_iff_ne.mpr e).symm
theorem key_rr (a b:Str):decide ((Sum.inr a:Key)=Sum.inr b)=decide (a=b):=by
  by_cases e:a=b
  · subst e;simp
  · have h:¬ (Sum.inr a:Key)=Sum.inr b:=fun q=>e (Sum.inr.inj q)
    rw [decide_eq_false h,decide_eq_false e]
theorem key_lr (a:Int) (b:Str):decide ((Sum.inl a:Key)=Sum.inr b)=false:=decide_eq_false (fun q=>nomatch q)
theorem key_rl (a:Str) (b:Int):decide ((Sum.inr a:Key)=Sum.inl b)=false:=decide_eq_false (fun q=>nomatch q)
def mixKind (prog:Program) (w:World):PySem.KeyKind prog w Key where
  is:=keyIs
  hash:=keyH w
  inj:=fun v a b ha hb=>by
    rcases keyIs_shape ha with ⟨i,t,rfl,rfl⟩ | ⟨x,t,rfl,rfl⟩
    · rcases keyIs_shape hb with ⟨j,u,rfl,e⟩ | ⟨y,u,rfl,e⟩
      · injection e with e1 _;rw [e1]
      · exact nomatch e
    · rcases keyIs_shape hb with ⟨j,u,rfl,e⟩ | ⟨y,u,rfl,e⟩
      · exact nomatch e
      · injection e with e1 _;rw [e1]
  byValue:=fun k v h=>by
    rcases keyIs_shape h with ⟨i,t,rfl,rfl⟩ | ⟨x,t,rfl,rfl⟩ <;> rfl
  pyHash:=fun hv h=>by
    rcases keyIs_shape hv with ⟨i,t,rfl,rfl⟩ | ⟨x,t,rfl,rfl⟩
    · exact wpAny_pyHash_int h
    · exact wpAny_pyHash_str h
  eqBool:=fun hu hv h=>by
    rcases keyIs_shape hu with ⟨i,t,rfl,rfl⟩ | ⟨x,t,rfl,rfl⟩
    · rcases keyIs_shape hv with ⟨j,u,rfl,rfl⟩ | ⟨y,u,rfl,rfl⟩
      · rw [key_ll] at h;exact wpAny_eqBool_int h
      · rw [key_lr] at h;exact SeqAt.EqAt.int_str i t y u _ _ _ _ h
    · rcases keyIs_shape hv with ⟨j,u,rfl,rfl⟩ | ⟨y,u,rfl,rfl⟩
      · rw [key_rl] at h;exact SeqAt.EqAt.str_int x t j u _ _ _ _ h
      · rw [key_rr] at h;exact wpAny_eqBool_str h
  «strs»:=fun k x t v h=>by
    rcases keyIs_shape h with ⟨i,u,rfl,e⟩ | ⟨y,u,rfl,e⟩
    · exact nomatch e
    · injection e with e1 _
      subst e1
      cases v <;> rfl
theorem mixKind_int (prog:Program) (w:World) (i:Int) (t:Tok):(mixKind prog w).is (.inl i) (.int i t)=true:=keyIs_int i t
theorem mixKind_str (prog:Program) (w:World) (x:Str) (t:Tok):(mixKind prog w).is (.inr x) (.str x t)=true:=keyIs_str x t
end L2
namespace L2
open PySem PySem.Spec PyProof.Rows
inductive V where
  | non | bl (b:Bool) | int (i:Int) | str (x:Str) | byt (b:Array UInt8) | flt (b:UInt64) | ref (a:Addr) | ty (n:String)
  deriving DecidableEq
def RelV:V→Value→Prop
  | .non,u=>u=Value.none
  | .bl b,u=>u=Value.bool b
  | .int i,u=>∃ t,u=Value.int i t
  | .str x,u=>∃ t,u=Value.str x t
  | .byt b,u=>∃ t,u=Value.bytes b t
  | .flt b,u=>∃ t,u=Value.float b t
  | .ref a,u=>u=Value.ref a
  | .ty n,u=>u=Value.type n
abbrev Vals:List V→List Value→Prop:=Paired RelV
theorem Vals.length {xs:List V} {us:List Value} (r:Vals xs us):xs.length=us.length:=Paired.length r
theorem Vals.get:∀ {xs:List V} {us:List Value} {i:Nat} {x:V},Vals xs us→xs[i]?=some x→∃ u,us[i]?=some u∧RelV x u
  | _,_,_,_,.nil,e=>by simp at e
  | _,_,0,_,.cons r _,e=>by simp at e;subst e;exact ⟨_,rfl,r⟩
  | _,_,i + 1,x,.cons _ t,e=>by
    obtain ⟨u,h1,h2⟩:=Vals.get (i:=i) (x:=x) t (by simpa using e)
    exact ⟨u,by simpa using h1,h2⟩
theorem Vals.set {x:V} {u:Value} (r:RelV x u):∀ {xs:List V} {us:List Value} (i:Nat),Vals xs us→Vals (xs.set i x) (us.set i u)
  | _,_,_,.nil=>.nil
  | _,_,0,.cons _ t=>.cons r t
  | _,_,i + 1,.cons q t=>.cons q (Vals.set r i t)
theorem Vals.append:∀ {xs ys:List V} {us ws:List Value},Vals xs us→Vals ys ws→Vals (xs++ys) (us++ws)
  | _,_,_,_,.nil,s=>s
  | _,_,_,_,.cons r t,s=>.cons r (Vals.append t s)
theorem Vals.take:∀ {xs:List V} {us:List Value} (n:Nat),Vals xs us→Vals (xs.take n) (us.take n)
  | _,_,0,_=>.nil
  | _,_,_ + 1,.nil=>.nil
  | _,_,n + 1,.cons r t=>.cons r (Vals.take n t)
theorem Vals.drop:∀ {xs:List V} {us:List Value} (n:Nat),Vals xs us→Vals (xs.drop n) (us.drop n)
  | _,_,0,r=>r
  | _,_,_ + 1,.nil=>.nil
  | _,_,n + 1,.cons _ t=>Vals.drop n t
def RelO:Option V→Option Value→Prop
  | some v,some u=>RelV v u
  | none,none=>True
  | _,_=>False
def KV {κ:Type}:List (κ × V)→List (κ × Value)→Prop:=Paired fun (p:κ × V) (q:κ × Value)=>p.1=q.1∧RelV p.2 q.2
def kV:Key→V
  | .inl i=>.int i
  | .inr x=>.str x
inductive HO where
  | lst (xs:List V)
  | tup (xs:List V)
  | dK (kvs:List (Key × V)) | dT (kvs:List (List Key × V))
  | set (S:Int→Bool) (n:Nat)
  | ins (C dx:Addr) (fs:List (Str × V))
  | own (x:Addr)
  | xd (fs:List (Str × V))
  | met (f x:Addr)
  | rng (lo hi:Int)
  | frz (o:Obj) (u:HO)
  | tbl (ps:Array Value)
  | ext (φ:Heap→Prop)
abbrev Hp:=Addr→Option HO
def upd (H:Hp) (a:Addr) (o:HO):Hp:=fun b=>if b=a then some o else H b
theorem upd_same {H:Hp} {a:Addr} {o:HO}:upd H a o a=some o:=by unfold upd;rw [if_pos rfl]
theorem upd_ne {H:Hp} {a b:Addr} {o:HO} (h:b≠a):upd H a o b=H b:=by unfold upd;rw [if_neg h]
theorem upd_upd {H:Hp} {a:Addr} {o u:HO}:upd (upd H a o) a u=upd H a u:=by
  funext b;unfold upd;split <;> rfl
theorem ne_of {H:Hp} {a b:Addr} {o u:HO} (h:H a=some o) (h':H b=some u) (d:o≠u):a≠b:=by
  intro e;subst e;rw [h] at h';exact d (Option.some.inj h')
theorem ne_of_none {H:Hp} {a b:Addr} {o:HO} (h:H a=some o) (h':H b=none):a≠b:=by
  intro e;subst e;rw [h] at h';cases h'
section
variable (P:Program) (w:World)
def ObjOk (H:Hp) (h:Heap) (a:Addr):HO→Prop
  | .lst xs=>xs.length≤sizeLine∧∃ (its:List Value) (n:Nat),Vals xs its∧h.get? a=some { cls:=.type "list",data:=.seq its.toArray n }
  | .tup xs=>xs.length≤sizeLine∧∃ its:List Value,Vals xs its∧IsTup h a its.toArray
  | .dK kvs=>kvs.length≤sizeLine∧(a == sysModules)=false∧∃ vs,KV kvs vs∧h.DictOf (mixKind P w) a vs
  | .dT kvs=>kvs.length≤sizeLine∧(a == sysModules)=false∧∃ xs:List (List Key × Addr × Value),
      Paired (fun (p:List Key × V) (q:List Key × Addr × Value)=>p.1=q.1∧H q.2.1=some (.tup (p.1.map kV))∧RelV p.2 q.2.2) kvs xs ∧
      ∃ o es ep,h.get? a=some o∧o.ExactDict∧o.data=.dict es ep∧es.toList=xs.map (entryOfKey (tupleKind (mixKind P w)))∧(xs.map (·.1)).Nodup
  | .set S n=>h.SetOf (intKind P w) a S n
  | .ins C dx fs=>H dx=some (.own a)∧fs.length≤1000∧dx≠a∧h.get? a=some (PySem.W.instObj C dx) ∧
      ∃ mA,h.Ns1 dx mA∧(∀ f,RelO (fs.lookup f) (mA f))∧PySem.Within mA (fs.map (·.1))
  | .own _=>∃ o,h.get? a=some o
  | .xd fs=>∃ mA,h.Ns1 a mA∧∀ f,RelO (fs.lookup f) (mA f)
  | .rng lo hi=>∃ t u v,h.get? a=some { cls:=.type "range",data:=.fields #[.int lo t,.int hi u,.int 1 v] }
  | .frz o u=>h.get? a=some o∧ObjOk H h a u
  | .tbl ps=>h.get? a=some { cls:=.none,data:=.fields ps }
  | .met f x=>h.get? a=some (PySem.W.methodObj (.ref f) (.ref x))
  | .ext φ=>φ h∧(∃ o,h.get? a=some o)∧∀ h1 h2:Heap,φ h1→(∀ o,h1.get? a=some o→h2.get? a=some o)→φ h2
def HOk (H:Hp) (h:Heap):Prop:=∀ a o,H a=some o→ObjOk P w H h a o
end
section
variable {P:Program} {w:World} {H H':Hp} {h h':Heap} {a:Addr} {o:HO}
theorem ObjOk.lt (x:ObjOk P w H h a o):a < h.objs.size:=by
  cases o with
  | lst xs=>obtain ⟨_,_,_,_,e⟩:=x;exact Heap.lt_size e
  | tup xs=>obtain ⟨_,_,_,p⟩:=x;exact p.lt
  | dK kvs=>obtain ⟨_,_,_,_,o,_,_,e,_⟩:=x;exact Heap.lt_size e
  | dT kvs=>obtain ⟨_,_,_,_,o,_,_,e,_⟩:=x;exact Heap.lt_size e
  | set S n=>obtain ⟨o,_,_,_,e,_⟩:=x;exact Heap.lt_size e
  | ins C dx fs=>obtain ⟨_,_,_,e,_⟩:=x;exact Heap.lt_size e
  | own y=>obtain ⟨_,e⟩:=x;exact Heap.lt_size e
  | xd fs=>obtain ⟨_,⟨_,_,_,e,_⟩,_⟩:=x;exact Heap.lt_size e
  | rng lo hi=>obtain ⟨_,_,_,e⟩:=x;exact Heap.lt_size e
  | frz ob u=>obtain ⟨e,_⟩:=x;exact Heap.lt_size e
  | tbl ps=>exact Heap.lt_size (show h.get? a=some _ from x)
  | met f y=>exact Heap.lt_size (show h.get? a=some _ from x)
  | ext φ=>obtain ⟨_,⟨_,e⟩,_⟩:=x;exact Heap.lt_size e
theorem Paired.mapP {α β:Type} {F G:α→β→Prop}:∀ {l₁:List α} {l₂:List β},Paired F l₁ l₂→(∀ a b,F a b→G a b)→Paired G l₁ l₂
  | _,_,.nil,_=>.nil
  | _,_,.cons r t,f=>.cons (f _ _ r) (Paired.mapP t f)
theorem ObjOk.stay (x:ObjOk P w H h a o) (k:∀ b u,(b=a∨H b=some (.own a))→h.get? b=some u→h'.get? b=some u)
    (ho:∀ b,H b=some (.own a)→H' b=some (.own a)) (ht:∀ b xs,H b=some (.tup xs)→H' b=some (.tup xs)):ObjOk P w H' h' a o:=by
  induction o with
  | lst xs=>obtain ⟨z,its,n,r,e⟩:=x;exact ⟨z,its,n,r,k _ _ (.inl rfl) e⟩
  | tup xs=>obtain ⟨z,its,r,ob,e,c⟩:=x;exact ⟨z,its,r,ob,k _ _ (.inl rfl) e,c⟩
  | dK kvs=>obtain ⟨z,y,vs,r,ob,es,ep,e,c⟩:=x;exact ⟨z,y,vs,r,ob,es,ep,k _ _ (.inl rfl) e,c⟩
  | dT kvs =>
    obtain ⟨z,y,xs,r,ob,es,ep,e,c⟩:=x
    exact ⟨z,y,xs,Paired.mapP r fun p q z=>⟨z.1,ht _ _ z.2.1,z.2.2⟩,ob,es,ep,k _ _ (.inl rfl) e,c⟩
  | set S n=>obtain ⟨ob,es,ep,t,e,c⟩:=x;exact ⟨ob,es,ep,t,k _ _ (.inl rfl) e,c⟩
  | ins C dx fs =>
    obtain ⟨d,z,ne,e,mA,⟨od,es,ep,e2,c⟩,r⟩:=x
    exact ⟨ho _ d,z,ne,k _ _ (.inl rfl) e,mA,⟨od,es,ep,k _ _ (.inr d) e2,c⟩,r⟩
  | own y=>obtain ⟨ob,e⟩:=x;exact ⟨ob,k _ _ (.inl rfl) e⟩
  | xd fs=>obtain ⟨mA,⟨od,es,ep,e,c⟩,r⟩:=x;exact ⟨mA,⟨od,es,ep,k _ _ (.inl rfl) e,c⟩,r⟩
  | rng lo hi=>obtain ⟨t,u,v,e⟩:=x;exact ⟨t,u,v,k _ _ (.inl rfl) e⟩
  | frz ob u ih=>obtain ⟨e,q⟩:=x;exact ⟨k _ _ (.inl rfl) e,ih q⟩
  | tbl ps =>
    have e:h.get? a=some { cls:=.none,data:=.fields ps }:=x
    show h'.get? a=some { cls:=.none,data:=.fields ps }
    exact k a _ (.inl rfl) e
  | met f y =>
    have e:h.get? a=some (PySem.W.methodObj (.ref f) (.ref y)):=x
    show h'.get? a=some (PySem.W.methodObj (.ref f) (.ref y))
    exact k a _ (.inl rfl) e
  | ext φ=>obtain ⟨p,⟨o,e⟩,st⟩:=x;exact ⟨st _ _ p fun o q=>k _ _ (.inl rfl) q,⟨o,k _ _ (.inl rfl) e⟩,st⟩
theorem HOk.lt (x:HOk P w H h) (e:H a=some o):a < h.objs.size:=(x a o e).lt
theorem HOk.fresh (x:HOk P w H h) (e:h.objs.size≤a):H a=none:=by
  cases q:H a with
  | none=>rfl
  | some u=>exact absurd (Nat.lt_of_lt_of_le (x.lt q) e) (Nat.lt_irrefl _)
theorem HOk.kept (x:HOk P w H h) (k:∀ b u,h.get? b=some u→h'.get? b=some u):HOk P w H h':=fun a o e =>
  (x a o e).stay (fun b u _ q=>k b u q) (fun _ q=>q) fun _ _ q=>q
theorem HOk.laid (x:HOk P w H h) (k:∀ b u,h.get? b=some u→h'.get? b=some u) (hp:h.objs.size≤a) (new:ObjOk P w (upd H a o) h' a o):HOk P w (upd H a o) h':=fun b u e=>by
  have hn:=x.fresh hp
  by_cases hb:b=a
  · subst hb;rw [upd_same] at e;cases e;exact new
  · rw [upd_ne hb] at e
    exact (x b u e).stay (fun c v _ q=>k c v q) (fun c q=>by rw [upd_ne (ne_of_none q hn)];exact q) fun c xs q=>by rw [upd_ne (ne_of_none q hn)];exact q
end
def Rd (H:Hp) (a:Addr) (u:HO):Prop:=H a=some u∨∃ o,H a=some (.frz o u)
theorem Rd.ok {P:Program} {w:World} {H:Hp} {h:Heap} {a:Addr} {u:HO} (r:Rd H a u) (x:HOk P w H h):ObjOk P w H h a u:=by
  rcases r with r | ⟨o,r⟩
  · exact x a u r
  · obtain ⟨_,q⟩:=x a _ r
    exact q
def Mut:Option HO→Prop
  | some (.lst _)=>True
  | some (.dK _)=>True
  | some (.dT _)=>True
  | some (.set _ _)=>True
  | some (.ins _ _ _)=>True
  | some (.ext _)=>True
  | _=>False
section
variable {P:Program} {w:World} {H:Hp} {h h':Heap} {x e:Addr} {o':HO}
theorem HOk.write (ok:HOk P w H h) (mu:Mut (H x)) (he:e=x∨H e=some (.own x)) (k:∀ b u,b≠e→h.get? b=some u→h'.get? b=some u) (heo:∃ u,h'.get? e=some u)
    (new:ObjOk P w (upd H x o') h' x o'):HOk P w (upd H x o') h':=fun b u q=>by
  have nown:∀ c y,H c=some (.own y)→c≠x:=fun c y r z=>by subst z;rw [r] at mu;exact mu
  have ntup:∀ c xs,H c=some (.tup xs)→c≠x:=fun c xs r z=>by subst z;rw [r] at mu;exact mu
  by_cases hb:b=x
  · subst hb;rw [upd_same] at q;cases q;exact new
  · rw [upd_ne hb] at q
    by_cases hbe:b=e
    · have q':H b=some (.own x):=by
        rcases he with z | z
        · exact absurd (hbe.trans z) hb
        · rw [hbe];exact z
      rw [q] at q';cases q'
      obtain ⟨v,hv⟩:=heo
      exact ⟨v,by rw [hbe];exact hv⟩
    · refine (ok b u q).stay (fun c v hc r=>k c v ?_ r) (fun c r=>by rw [upd_ne (nown c b r)];exact r) fun c xs r=>by rw [upd_ne (ntup c xs r)];exact r
      rcases hc with rfl | hc
      · exact hbe
      · rintro rfl
        rcases he with z | z
        · exact nown c b hc z
        · rw [hc] at z;cases z;exact hb rfl
end
structure Un (fs ex:List Addr) (H H':Hp) (h h':Heap):Prop where
  keep:∀ b o,h.get? b=some o→H b=none→b∉fs→b∉ex→h'.get? b=some o
  slot:∀ b o,h.get? b=some o→H b=none→b∈fs→b∉ex→∃ sl,h'.get? b=some { o with slots:=sl }
  free:∀ b o,h.get? b=some o→H b=none→b∉ex→H' b=none
  there:∀ b o,h.get? b=some o→b∉ex→∃ o',h'.get? b=some o'
  tups:∀ b xs,H b=some (.tup xs)→H' b=some (.tup xs)
  frzs:∀ b o u,H b=some (.frz o u)→H' b=some (.frz o u)
  tbls:∀ b ps,H b=some (.tbl ps)→∃ more,H' b=some (.tbl (ps++more))
section
variable {fs fs' ex ex':List Addr} {H H1 H2:Hp} {h h1 h2 h':Heap} {a x e:Addr} {o:HO}
theorem Un.any (u:Un fs ex H H1 h h1) {b:Addr} {ob:Obj} (q:h.get? b=some ob) (n:H b=none) (hx:b∉ex):∃ sl,h1.get? b=some { ob with slots:=sl }:=by
  by_cases hb:b∈fs
  · exact u.slot b ob q n hb hx
  · exact ⟨ob.slots,u.keep b ob q n hb hx⟩
theorem Un.kept (k:∀ b u,h.get? b=some u→h'.get? b=some u):Un fs ex H H h h' :=
  ⟨fun b ob q _ _ _=>k b ob q,fun b ob q _ _ _=>⟨ob.slots,k b ob q⟩,fun _ _ _ n _=>n,fun b ob q _=>⟨ob,k b ob q⟩,fun _ _ q=>q,fun _ _ _ q=>q,fun _ ps q=>⟨#[],by rw [q];simp⟩⟩
theorem Un.refl:Un fs ex H H h h:=Un.kept fun _ _ q=>q
theorem Un.laid (k:∀ b u,h.get? b=some u→h'.get? b=some u) (hp:h.objs.size≤a) (hn:H a=none):Un fs ex H (upd H a o) h h' where
  keep:=fun b u q _ _ _=>k b u q
  slot:=fun b u q _ _ _=>⟨u.slots,k b u q⟩
  free:=fun b u q n _=>by rw [upd_ne (Nat.ne_of_lt (Nat.lt_of_lt_of_le (Heap.lt_size q) hp))];exact n
  there:=fun b u q _=>⟨u,k b u q⟩
  tups:=fun b xs q=>by rw [upd_ne (ne_of_none q hn)];exact q
  frzs:=fun b u xs q=>by rw [upd_ne (ne_of_none q hn)];exact q
  tbls:=fun b ps q=>⟨#[],by rw [upd_ne (ne_of_none q hn),q];simp⟩
theorem Un.write (mu:Mut (H x)) (he:e=x∨H e=some (.own x)) (k:∀ b u,b≠e→h.get? b=some u→h'.get? b=some u) (heo:∃ u,h'.get? e=some u):Un fs ex H (upd H x o) h h':=by
  have hx:∀ b,H b=none→b≠x:=fun b n z=>by subst z;rw [n] at mu;exact mu
  have hb:∀ b,H b=none→b≠e:=fun b n z=>by
    subst z
    rcases he with r | r
    · exact hx b n r
    · rw [n] at r;cases r
  have hm:∀ b u,H b=some u→¬ Mut (some u)→b≠x:=fun b u q nm z=>by subst z;rw [q] at mu;exact nm mu
  refine ⟨fun b u q n _ _=>k b u (hb b n) q,fun b u q n _ _=>⟨u.slots,k b u (hb b n) q⟩,fun b u q n _=>by rw [upd_ne (hx b n)];exact n,fun b u q _=>?_,
    fun b xs q=>by rw [upd_ne (hm b _ q fun z=>z)];exact q,fun b u xs q=>by rw [upd_ne (hm b _ q fun z=>z)];exact q,fun b ps q=>⟨#[],by rw [upd_ne (hm b _ q fun z=>z),q];simp⟩⟩
  by_cases hbe:b=e
  · subst hbe;exact heo
  · exact ⟨u,k b u hbe q⟩
end
def trk (h:Heap) (H:Hp):List Addr:=(List.range h.objs.size).filter fun a=>(H a).isSome
def hidT (h:Heap) (H:Hp):Heap:=PySem.W.hideAll h (trk h H)
theorem hidT_size (h:Heap) (H:Hp):(hidT h H).objs.size=h.objs.size:=PySem.W.hideAll_size _ _
theorem hidT_get {h:Heap} {H:Hp} {b:Addr} {o:Obj} (e:h.get? b=some o) (n:H b=none):(hidT h H).get? b=some o :=
  PySem.W.hideAll_get _ e fun hm=>by
    have q:(H b).isSome=true:=(List.mem_filter.mp hm).2
    rw [n] at q;simp at q
theorem of_hidT {h:Heap} {H:Hp} {b:Addr} {o:Obj} (e:(hidT h H).get? b=some o):h.get? b=some o∧H b=none:=by
  have e':h.get? b=some o:=PySem.W.of_hideAll (trk h H) e
  refine ⟨e',?_⟩
  cases q:H b with
  | none=>rfl
  | some x =>
    have hm:b∈trk h H:=List.mem_filter.mpr ⟨List.mem_range.mpr (Heap.lt_size e'),by simp [q]⟩
    have z:(hidT h H).get? b=none:=PySem.W.hideAll_none (trk h H) hm
    rw [z] at e;cases e
end L2
namespace L2
open PySem PySem.Spec PyProof.Rows
structure Mod (K:PySem.W.Frag) (mg:Str→Option Value) (base:Heap):Prop where
  kin:K.In base
  glob:base.Ns mainGlobals mg
  blt:∃ mb,base.Ns builtinsNs mb∧∀ x:Str,x≠"__name__"→mb x=bootBuiltins x
  nolimit:base.NoLimit
structure Cx where
  prog:Program
  w:World
  K:PySem.W.Frag
  mg:Str→Option Value
  base:Heap
  A:Around
  N:List Str
  s_0:Shared
  H_0:Hp
  env:Env
  outer:List Env
  stack:List Env
  ex:List Addr
  fn:Str→Bool
  calm:Bool
  pn:List (Addr × Obj)
  xe:Value→Shared→Prop
def frs (l:List Env):List Addr:=l.filterMap (·.frame)
abbrev Cx.fs (X:Cx):List Addr:=frs X.outer
def Vis (sc:Scope) (x:Str):Prop:=sc.names.lookup x=some .local∨sc.names.lookup x=some .cell∨sc.names.lookup x=some .free
def Loc (sc:Scope) (x:Str):Prop:=sc.names.lookup x=some .local∨sc.names.lookup x=some .cell
def Look (env:Env) (h:Heap) (m:Str→Option Value) (x:Str) (u:Value):Prop :=
  (env.kindOf x=some .local∧m x=some u)∨((env.kindOf x=some .cell∨env.kindOf x=some .free)∧∃ c,env.cells.lookup x=some c∧h.IsCell c (some u))
structure Cx.Ok (X:Cx):Prop where
  mod:Mod X.K X.mg X.base
  kind:X.env.scope.kind=.function
  glob:X.env.globals=mainGlobals
  blt:X.env.builtins=builtinsNs
  above:X.s_0.heap.objs.size≤X.env.locals
  inj:∀ x y c,X.env.cells.lookup x=some c→X.env.cells.lookup y=some c→x=y
  has:∀ x,(X.env.kindOf x=some .cell∨X.env.kindOf x=some .free)→∃ c,X.env.cells.lookup x=some c
  cab:∀ x c,X.fn x=true→X.env.cells.lookup x=some c→X.s_0.heap.objs.size≤c
  hd:X.calm=true→X.A.handled=none
  frames:X.A.frames=some X.stack
  stk:X.stack=X.outer∨(X.stack=X.env::X.outer∧X.env.frame=some X.env.locals)
  exf:∀ b∈X.ex,b≠X.env.locals∧∀ x c,X.env.cells.lookup x=some c→c≠b
  bs:∀ b o,X.base.get? b=some o→X.s_0.heap.get? b=some o∧X.H_0 b=none
  bsz:X.base.objs.size≤X.s_0.heap.objs.size
  noex:∀ b o,X.base.get? b=some o→b∉X.ex
  exfs:∀ b∈X.ex,b∉X.fs
  funs:X.s_0.heap.FunFrames X.base X.outer
  frf:∀ b∈X.fs,X.H_0 b=none
structure Inv (X:Cx) (pins:List (Addr × Obj)) (σ:List (Option V)) (H:Hp) (s:Shared):Prop where
  ok:X.Ok
  os:s.os=X.s_0.os
  bare:AllBare s.gens
  base:Un X.fs X.ex X.H_0 H X.s_0.heap s.heap
  loc:∃ m,s.heap.Ns X.env.locals m∧∀ (i:Nat) (x:Str) (v:V),X.N[i]?=some x→σ[i]?=some (some v)→Vis X.env.scope x→∃ u,RelV v u∧Look X.env s.heap m x u
  cell:∀ x c,X.env.cells.lookup x=some c→∃ v,s.heap.IsCell c v
  free:H X.env.locals=none
  freeC:∀ x c,X.env.cells.lookup x=some c→H c=none
  pin:∀ p∈X.pn++pins,s.heap.get? p.1=some p.2∧H p.1=none∧p.1≠X.env.locals∧p.1∉X.fs∧∀ v,p.2.data≠.cell v
  hok:HOk X.prog X.w H s.heap
  len:σ.length=X.N.length
section
variable {X:Cx} {pins:List (Addr × Obj)} {σ:List (Option V)} {H H':Hp} {s:Shared} {h':Heap}
theorem Cx.Ok.nofr (ok:X.Ok) {b:Addr} {o:Obj} (e:X.base.get? b=some o):b∉X.fs:=fun hb=>by
  have:=(ok.funs.mem hb).1
  rw [e] at this;cases this
theorem Inv.bs (I:Inv X pins σ H s):∀ b o,X.base.get? b=some o→s.heap.get? b=some o∧H b=none:=fun b o e =>
  ⟨I.base.keep b o (I.ok.bs b o e).1 (I.ok.bs b o e).2 (I.ok.nofr e) (I.ok.noex b o e),I.base.free b o (I.ok.bs b o e).1 (I.ok.bs b o e).2 (I.ok.noex b o e)⟩
theorem Inv.bk (I:Inv X pins σ H s):∀ b o,X.base.get? b=some o→s.heap.get? b=some o:=fun b o e=>(I.bs b o e).1
theorem Inv.mod (I:Inv X pins σ H s):Mod X.K X.mg X.base:=I.ok.mod
theorem Inv.kIn (I:Inv X pins σ H s):X.K.In s.heap:=I.ok.mod.kin.keeps I.bk
theorem Inv.lt (I:Inv X pins σ H s):X.env.locals < s.heap.objs.size:=let ⟨_,hn,_⟩:=I.loc;hn.lt
theorem Inv.sz (I:Inv X pins σ H s):X.s_0.heap.objs.size≤s.heap.objs.size:=Nat.le_trans I.ok.above (Nat.le_of_lt I.lt)
theorem Inv.nofs (I:Inv X pins σ H s) {a:Addr} (h:s.heap.objs.size≤a):a∉X.fs:=fun hb=>by
  obtain ⟨_,o,ho,_⟩:=I.ok.funs.mem hb
  exact absurd (Nat.lt_of_lt_of_le (Heap.lt_size ho) (Nat.le_trans I.sz h)) (Nat.lt_irrefl _)
theorem Inv.cne (I:Inv X pins σ H s):∀ x c,X.env.cells.lookup x=some c→c≠X.env.locals:=fun x c e z=>by
  obtain ⟨v,o,ho,hd⟩:=I.cell x c e
  obtain ⟨m,⟨o',es,ep,ho',hd',_⟩,_⟩:=I.loc
  rw [z,ho'] at ho;cases ho;rw [hd'] at hd;cases hd
theorem Inv.funs (I:Inv X pins σ H s):s.heap.FunFrames X.base X.outer:=by
  have all:∀ (l:List Env),(∀ b∈frs l,b∈X.fs)→X.s_0.heap.FunFrames X.base l→s.heap.FunFrames X.base l:=by
    intro l
    induction l with
    | nil=>intro _ _;trivial
    | cons env r ih =>
      intro hs hl
      obtain ⟨hk,⟨L,o,hf,hn,ho,hd⟩,hr⟩:=hl
      have hL:L∈X.fs:=hs L (by unfold frs;rw [List.filterMap_cons,hf];exact List.mem_cons_self)
      obtain ⟨sl,e⟩:=I.base.slot L o ho (I.ok.frf L hL) hL fun z=>I.ok.exfs L z hL
      exact ⟨hk,⟨L,_,hf,hn,e,hd⟩,ih (fun b hb=>hs b (by unfold frs;rw [List.filterMap_cons,hf];exact List.mem_cons_of_mem _ hb)) hr⟩
  exact all X.outer (fun _ hb=>hb) I.ok.funs
theorem Inv.stack (I:Inv X pins σ H s):s.heap.FunFrames X.base X.stack:=by
  rcases I.ok.stk with e | ⟨e,hf⟩
  · rw [e];exact I.funs
  · rw [e]
    obtain ⟨m,hn,_⟩:=I.loc
    refine .cons (by rw [I.ok.kind];decide) hf hn ?_ I.funs
    exact Heap.get?_none_of_le (Nat.le_trans I.ok.bsz I.ok.above)
theorem Inv.stkSub (I:Inv X pins σ H s):∀ b∈frs X.stack,b∈X.env.locals::X.fs:=fun b hb=>by
  rcases I.ok.stk with e | ⟨e,hf⟩
  · rw [e] at hb;exact List.mem_cons_of_mem _ hb
  · rw [e] at hb
    unfold frs at hb
    rw [List.filterMap_cons,hf] at hb
    exact hb
theorem Inv.stkFree (I:Inv X pins σ H s):∀ b∈frs X.stack,H b=none:=fun b hb=>by
  rcases List.mem_cons.mp (I.stkSub b hb) with e | hb
  · rw [e];exact I.free
  · obtain ⟨_,o,ho,_⟩:=I.ok.funs.mem hb
    exact I.base.free b o ho (I.ok.frf b hb) fun z=>I.ok.exfs b z hb
theorem Inv.step {g':Array GenState} {t':Nat} {d':Drawn} {ch:List Addr} (I:Inv X pins σ H s)
    (hch:∀ b∈ch,(b∈X.ex∨X.s_0.heap.objs.size≤b)∧b≠X.env.locals∧(∀ x c,X.env.cells.lookup x=some c→c≠b)∧∀ p∈X.pn++pins,p.1≠b)
    (keep:∀ b o,b≠X.env.locals→b∉X.fs→b∉ch→s.heap.get? b=some o→H b=none→h'.get? b=some o)
    (slot:∀ b o,b≠X.env.locals→b∈X.fs→b∉ch→s.heap.get? b=some o→H b=none→∃ sl,h'.get? b=some { o with slots:=sl }) (free:∀ b o,b∉ch→s.heap.get? b=some o→H b=none→H' b=none)
    (there:∀ b o,b∉ch→s.heap.get? b=some o→∃ o',h'.get? b=some o')
    (tups:∀ b xs,H b=some (.tup xs)→H' b=some (.tup xs)) (frzs:∀ b o u,H b=some (.frz o u)→H' b=some (.frz o u)) (tbls:∀ b ps,H b=some (.tbl ps)→∃ more,H' b=some (.tbl (ps++more)))
    (ns:∀ m,s.heap.Ns X.env.locals m→h'.Ns X.env.locals m) (hok:HOk X.prog X.w H' h') (hg:AllBare g') :
    Inv X pins σ H' { s with heap:=h',gens:=g',drawn:=d',toks:=t' }:=by
  have neL:∀ b o,X.s_0.heap.get? b=some o→b≠X.env.locals:=fun b o e=>Nat.ne_of_lt (Nat.lt_of_lt_of_le (Heap.lt_size e) I.ok.above)
  have neC:∀ b o,X.s_0.heap.get? b=some o→b∉X.ex→b∉ch:=fun b o e hx hb=>by
    rcases (hch b hb).1 with z | z
    · exact hx z
    · exact absurd (Nat.lt_of_lt_of_le (Heap.lt_size e) z) (Nat.lt_irrefl _)
  have cellK:∀ x c,X.env.cells.lookup x=some c→∀ v,s.heap.IsCell c v→h'.IsCell c v:=fun x c e v ⟨o,ho,hd⟩=>by
    have nch:c∉ch:=fun z=>(hch c z).2.2.1 x c e rfl
    by_cases hc:c∈X.fs
    · obtain ⟨sl,q⟩:=slot c o (I.cne x c e) hc nch ho (I.freeC x c e)
      exact ⟨_,q,hd⟩
    · exact ⟨o,keep c o (I.cne x c e) hc nch ho (I.freeC x c e),hd⟩
  refine ⟨I.ok,I.os,hg,⟨fun b o e n hb hx=>?_,fun b o e n hb hx=>?_,fun b o e n hx=>?_,fun b o e hx=>?_,fun b xs e=>tups b xs (I.base.tups b xs e),fun b o xs e=>frzs b o xs (I.base.frzs b o xs e),fun b ps e=>?_⟩,?_,fun x c e=>?_,?_,fun x c e=>?_,fun p hp=>?_,hok,I.len⟩
  · exact keep b o (neL b o e) hb (neC b o e hx) (I.base.keep b o e n hb hx) (I.base.free b o e n hx)
  · obtain ⟨sl,e1⟩:=I.base.slot b o e n hb hx
    obtain ⟨sl',e2⟩:=slot b _ (neL b o e) hb (neC b o e hx) e1 (I.base.free b o e n hx)
    exact ⟨sl',e2⟩
  · obtain ⟨o',e1⟩:=I.base.there b o e hx
    exact free b o' (neC b o e hx) e1 (I.base.free b o e n hx)
  · obtain ⟨o',e1⟩:=I.base.there b o e hx
    exact there b o' (neC b o e hx) e1
  · obtain ⟨m1,e1⟩:=I.base.tbls b ps e
    obtain ⟨m2,e2⟩:=tbls b _ e1
    exact ⟨m1++m2,by rw [e2,Array.append_assoc]⟩
  · obtain ⟨m,hn,hl⟩:=I.loc
    refine ⟨m,ns m hn,fun i x v e1 e2 e3=>?_⟩
    obtain ⟨u,r,l⟩:=hl i x v e1 e2 e3
    refine ⟨u,r,?_⟩
    rcases l with l | ⟨k,c,e,z⟩
    · exact .inl l
    · exact .inr ⟨k,c,e,cellK x c e _ z⟩
  · obtain ⟨v,z⟩:=I.cell x c e
    exact ⟨v,cellK x c e v z⟩
  · obtain ⟨m,⟨o,_,_,ho,_⟩,_⟩:=I.loc
    exact free _ o (fun z=>(hch _ z).2.1 rfl) ho I.free
  · obtain ⟨v,o,ho,hd⟩:=I.cell x c e
    exact free c o (fun z=>(hch c z).2.2.1 x c e rfl) ho (I.freeC x c e)
  · obtain ⟨e,n,ne,nf,d⟩:=I.pin p hp
    have nch:p.1∉ch:=fun z=>(hch p.1 z).2.2.2 p hp rfl
    exact ⟨keep p.1 p.2 ne nf nch e n,free p.1 p.2 nch e n,ne,nf,d⟩
theorem Inv.un {t':Nat} (I:Inv X pins σ H s) (u:Un X.fs [] H H' s.heap h') (hok:HOk X.prog X.w H' h'):Inv X pins σ H' { s with heap:=h',toks:=t' }:=by
  obtain ⟨m,⟨o,es,ep,ho,r⟩,_⟩:=id I.loc
  obtain ⟨sl,hL⟩:=u.any ho I.free (by simp)
  exact I.step (g':=s.gens) (d':=s.drawn) (ch:=[]) (fun _ z=>nomatch z) (fun b o _ hb _ e n=>u.keep b o e n hb (by simp)) (fun b o _ hb _ e n=>u.slot b o e n hb (by simp)) (fun b o _ e n=>u.free b o e n (by simp)) (fun b o _ e=>u.there b o e (by simp)) u.tups u.frzs u.tbls (fun m' hm=>by
    obtain ⟨o',es',ep',ho',r'⟩:=hm
    rw [ho] at ho';cases ho'
    exact ⟨_,es',ep',hL,r'⟩) hok I.bare
theorem Inv.call {g':Array GenState} {t':Nat} {d':Drawn} {ch:List Addr} (I:Inv X pins σ H s) (u:Un (frs X.stack) ch H H' s.heap h') (hok:HOk X.prog X.w H' h') (hg:AllBare g')
    (hch:∀ b∈ch,(b∈X.ex∨X.s_0.heap.objs.size≤b)∧b≠X.env.locals∧(∀ x c,X.env.cells.lookup x=some c→c≠b)∧∀ p∈X.pn++pins,p.1≠b) :
    Inv X pins σ H' { s with heap:=h',gens:=g',drawn:=d',toks:=t' }:=by
  obtain ⟨m,⟨o,es,ep,ho,r⟩,_⟩:=id I.loc
  obtain ⟨sl,hL⟩:=u.any ho I.free fun z=>(hch _ z).2.1 rfl
  exact I.step (ch:=ch) hch (fun b o hL hb hc e n=>u.keep b o e n (fun z=>(List.mem_cons.mp (I.stkSub b z)).elim hL hb) hc) (fun b o _ _ hc e n=>u.any e n hc) (fun b o hc e n=>u.free b o e n hc) (fun b o hc e=>u.there b o e hc) u.tups u.frzs u.tbls (fun m' hm=>by
    obtain ⟨o',es',ep',ho',r'⟩:=hm
    rw [ho] at ho';cases ho'
    exact ⟨_,es',ep',hL,r'⟩) hok hg
theorem Inv.turned {t':Nat} {it:Addr} (I:Inv X pins σ H s) (k:∀ b o,b≠it→s.heap.get? b=some o→h'.get? b=some o) (hn:H it=none) (hL:it≠X.env.locals)
    (h1:it∈X.ex∨X.s_0.heap.objs.size≤it) (h2:∀ x c,X.env.cells.lookup x=some c→c≠it) (h3:∀ p∈X.pn++pins,p.1≠it):Inv X pins σ H { s with heap:=h',toks:=t' }:=by
  have nit:∀ b u,H b=some u→b≠it:=fun b u e z=>by rw [z,hn] at e;cases e
  refine I.step (g':=s.gens) (d':=s.drawn) (ch:=[it]) (fun b hb=>?_) (fun b o _ _ hc e _=>k b o (fun z=>hc (by simp [z])) e) (fun b o _ _ hc e _=>⟨o.slots,k b o (fun z=>hc (by simp [z])) e⟩) (fun _ _ _ _ n=>n)
    (fun b o hc e=>⟨o,k b o (fun z=>hc (by simp [z])) e⟩) (fun _ _ e=>e) (fun _ _ _ e=>e) (fun b ps e=>⟨#[],by rw [e];simp⟩) (fun m hm=>?_) (fun b u e=>?_) I.bare
  · have e:b=it:=by simpa using hb
    subst e
    exact ⟨h1,hL,h2,h3⟩
  · obtain ⟨o,es,ep,ho,r⟩:=hm
    exact ⟨o,es,ep,k _ o (Ne.symm hL) ho,r⟩
  · refine (I.hok b u e).stay (fun c v hc q=>k c v ?_ q) (fun _ q=>q) fun _ _ q=>q
    rcases hc with z | z
    · rw [z];exact nit b u e
    · exact nit c _ z
theorem Inv.tok (I:Inv X pins σ H s) (t:Nat):Inv X pins σ H { s with toks:=t }:=I.un (h':=s.heap) (t':=t) Un.refl I.hok
theorem Inv.kept {t':Nat} (I:Inv X pins σ H s) (k:∀ b u,s.heap.get? b=some u→h'.get? b=some u):Inv X pins σ H { s with heap:=h',toks:=t' }:=I.un (Un.kept k) (I.hok.kept k)
theorem Inv.laid {a:Addr} {o:HO} {t':Nat} (I:Inv X pins σ H s) (k:∀ b u,s.heap.get? b=some u→h'.get? b=some u) (hp:s.heap.objs.size≤a) (new:ObjOk X.prog X.w (upd H a o) h' a o) :
    Inv X pins σ (upd H a o) { s with heap:=h',toks:=t' }:=I.un (Un.laid k hp (I.hok.fresh hp)) (I.hok.laid k hp new)
theorem Inv.write {x e:Addr} {o:HO} {t':Nat} (I:Inv X pins σ H s) (mu:Mut (H x)) (he:e=x∨H e=some (.own x)) (k:∀ b u,b≠e→s.heap.get? b=some u→h'.get? b=some u) (heo:∃ u,h'.get? e=some u)
    (new:ObjOk X.prog X.w (upd H x o) h' x o):Inv X pins σ (upd H x o) { s with heap:=h',toks:=t' }:=I.un (Un.write mu he k heo) (I.hok.write mu he k heo new)
theorem Inv.weak {σ':List (Option V)} (I:Inv X pins σ H s) (hl:σ'.length=σ.length) (w:∀ (i:Nat) v,σ'[i]?=some (some v)→σ[i]?=some (some v)):Inv X pins σ' H s :=
  ⟨I.ok,I.os,I.bare,I.base,let ⟨m,hn,hl'⟩:=I.loc;⟨m,hn,fun i x v e1 e2 e3=>hl' i x v e1 (w i v e2) e3⟩,I.cell,I.free,I.freeC,I.pin,I.hok,hl.trans I.len⟩
theorem Inv.pins_of {pins':List (Addr × Obj)} (I:Inv X pins σ H s) (h:∀ p∈pins',s.heap.get? p.1=some p.2∧H p.1=none∧p.1≠X.env.locals∧p.1∉X.fs∧∀ v,p.2.data≠.cell v):Inv X pins' σ H s :=
  ⟨I.ok,I.os,I.bare,I.base,I.loc,I.cell,I.free,I.freeC,fun p hp=>(List.mem_append.mp hp).elim (fun z=>I.pin p (List.mem_append_left _ z)) (h p),I.hok,I.len⟩
theorem nodup_ix {N:List Str} (hN:N.Nodup) {i j:Nat} {x:Str} (a:N[i]?=some x) (b:N[j]?=some x):i=j:=by
  obtain ⟨h1,e1⟩:=List.getElem?_eq_some_iff.mp a
  obtain ⟨h2,e2⟩:=List.getElem?_eq_some_iff.mp b
  exact (List.getElem_inj hN).mp (e1.trans e2.symm)
theorem store_ok2 {M:Model} {A:Around} {E:Value→Shared→Prop} {i:Nat} {x:Str} {v:V} {u:Value} {Q:Unit→Shared→Prop} (I:Inv X pins σ H s) (hN:X.N.Nodup) (hi:X.N[i]?=some x) (hx:Loc X.env.scope x) (r:RelV v u)
    (h:∀ s',Inv X pins (σ.set i (some v)) H s'→(∃ a,Heap.SameBut a s.heap s'.heap∧(a=X.env.locals∨X.env.cells.lookup x=some a))→Q () s') (hf:X.fn x=true∨X.env.scope.names.lookup x=some .local:=by first | exact .inl rfl | exact .inr rfl | assumption):wpAny M A (storeName X.env x u) Q E s:=by
  obtain ⟨m,hn,hl⟩:=id I.loc
  have hcls:(X.env.scope.kind == .class || (X.env.scope.kind == .module && X.env.locals != X.env.globals))=false:=by rw [I.ok.kind];rfl
  have hiσ:i < σ.length:=by rw [I.len];exact (List.getElem?_eq_some_iff.mp hi).1
  have cne:=I.cne
  have tracked:∀ {a:Addr} {h':Heap},(∃ o,s.heap.get? a=some o∧H a=none)→Heap.SameBut a s.heap h'→HOk X.prog X.w H h':=fun {a h'} ha hs b ob e=>by
    obtain ⟨_,_,hfree⟩:=ha
    refine (I.hok b ob e).stay (fun c w' hc q=>(hs.2 c ?_).trans q) (fun _ q=>q) fun _ _ q=>q
    rintro rfl
    rcases hc with rfl | hc
    · rw [hfree] at e;cases e
    · rw [hfree] at hc;cases hc
  rcases hx with hk | hk
  · refine wpAny_storeName_local hk hn (fun h' hn' hs=>?_) hcls
    obtain ⟨oL,_,_,hoL,_⟩:=id hn
    refine h _ ⟨I.ok,I.os,I.bare,⟨fun b o e n hb hx=>?_,fun b o e n hb hx=>?_,I.base.free,fun b o e hx=>?_,I.base.tups,I.base.frzs,I.base.tbls⟩,⟨_,hn',fun j y v' e1 e2 e3=>?_⟩,fun y c e=>?_,I.free,I.freeC,fun p hp=>?_,tracked ⟨oL,hoL,I.free⟩ hs,by simpa using I.len⟩ ⟨_,hs,.inl rfl⟩
    · exact (hs.2 b (Nat.ne_of_lt (Nat.lt_of_lt_of_le (Heap.lt_size e) I.ok.above))).trans (I.base.keep b o e n hb hx)
    · obtain ⟨sl,e1⟩:=I.base.slot b o e n hb hx
      exact ⟨sl,(hs.2 b (Nat.ne_of_lt (Nat.lt_of_lt_of_le (Heap.lt_size e) I.ok.above))).trans e1⟩
    · obtain ⟨o',e1⟩:=I.base.there b o e hx
      exact ⟨o',(hs.2 b (Nat.ne_of_lt (Nat.lt_of_lt_of_le (Heap.lt_size e) I.ok.above))).trans e1⟩
    · by_cases hj:j=i
      · subst hj
        rw [hi] at e1;cases e1
        rw [List.getElem?_set_self hiσ] at e2
        cases e2
        exact ⟨u,r,.inl ⟨hk,by simp⟩⟩
      · rw [List.getElem?_set_ne (Ne.symm hj)] at e2
        obtain ⟨u',r',q⟩:=hl j y v' e1 e2 e3
        refine ⟨u',r',?_⟩
        rcases q with ⟨k,e⟩ | ⟨k,c,e,z⟩
        · refine .inl ⟨k,?_⟩
          have:y≠x:=fun e=>hj (nodup_ix hN e1 (e ▸ hi))
          simp [this,e]
        · exact .inr ⟨k,c,e,z.sameBut hs (cne y c e)⟩
    · obtain ⟨w',z⟩:=I.cell y c e
      exact ⟨w',z.sameBut hs (cne y c e)⟩
    · obtain ⟨e,n,ne,nf,d⟩:=I.pin p hp
      exact ⟨(hs.2 p.1 ne).trans e,n,ne,nf,d⟩
  · have hfn:X.fn x=true:=by
      rcases hf with z | z
      · exact z
      · rw [z] at hk;cases hk
    obtain ⟨c,hc⟩:=I.ok.has x (.inl hk)
    obtain ⟨w',z⟩:=I.cell x c hc
    refine wpAny_storeName_cell I.ok.kind hk hc z (fun h' hc' hs=>?_)
    obtain ⟨oc,hoc,hocd⟩:=id z
    refine h { s with heap:=h' } ⟨I.ok,I.os,I.bare,⟨fun b o e n hb hx=>?_,fun b o e n hb hx=>?_,I.base.free,fun b o e hx=>?_,I.base.tups,I.base.frzs,I.base.tbls⟩,⟨m,hn.sameBut hs (Ne.symm (cne x c hc)),fun j y v' e1 e2 e3=>?_⟩,fun y c' e=>?_,I.free,I.freeC,fun p hp=>?_,tracked ⟨oc,hoc,I.freeC x c hc⟩ hs,by simpa using I.len⟩ ⟨c,hs,.inr hc⟩
    · exact (hs.2 b (Nat.ne_of_lt (Nat.lt_of_lt_of_le (Heap.lt_size e) (I.ok.cab x c hfn hc)))).trans (I.base.keep b o e n hb hx)
    · obtain ⟨sl,e1⟩:=I.base.slot b o e n hb hx
      exact ⟨sl,(hs.2 b (Nat.ne_of_lt (Nat.lt_of_lt_of_le (Heap.lt_size e) (I.ok.cab x c hfn hc)))).trans e1⟩
    · obtain ⟨o',e1⟩:=I.base.there b o e hx
      exact ⟨o',(hs.2 b (Nat.ne_of_lt (Nat.lt_of_lt_of_le (Heap.lt_size e) (I.ok.cab x c hfn hc)))).trans e1⟩
    · by_cases hj:j=i
      · subst hj
        rw [hi] at e1;cases e1
        rw [List.getElem?_set_self hiσ] at e2
        cases e2
        exact ⟨u,r,.inr ⟨.inl hk,c,hc,hc'⟩⟩
      · rw [List.getElem?_set_ne (Ne.symm hj)] at e2
        obtain ⟨u',r',q⟩:=hl j y v' e1 e2 e3
        refine ⟨u',r',?_⟩
        rcases q with q | ⟨k,c',e,z'⟩
        · exact .inl q
        · refine .inr ⟨k,c',e,z'.sameBut hs ?_⟩
          rintro rfl
          exact hj (nodup_ix hN e1 (I.ok.inj _ _ _ e hc ▸ hi))
    · by_cases hcc:c'=c
      · subst hcc;exact ⟨_,hc'⟩
      · obtain ⟨w2,z2⟩:=I.cell y c' e
        exact ⟨w2,z2.sameBut hs hcc⟩
    · obtain ⟨e,n,ne,nf,d⟩:=I.pin p hp
      refine ⟨(hs.2 p.1 ?_).trans e,n,ne,nf,d⟩
      intro q
      rw [q,hoc] at e
      have q':oc=p.2:=Option.some.inj e
      exact d w' (by rw [← q'];exact hocd)
theorem store_ok {M:Model} {A:Around} {E:Value→Shared→Prop} {i:Nat} {x:Str} {v:V} {u:Value} {Q:Unit→Shared→Prop} (I:Inv X pins σ H s) (hN:X.N.Nodup) (hi:X.N[i]?=some x) (hx:Loc X.env.scope x) (r:RelV v u)
    (h:∀ s',Inv X pins (σ.set i (some v)) H s'→Q () s') (hf:X.fn x=true∨X.env.scope.names.lookup x=some .local:=by first | exact .inl rfl | exact .inr rfl | assumption):wpAny M A (storeName X.env x u) Q E s :=
  store_ok2 I hN hi hx r (fun s' I' _=>h s' I') hf
theorem Inv.call' {s':Shared} {ch:List Addr} (I:Inv X pins σ H s) (ho:s'.os=s.os) (u:Un (frs X.stack) ch H H' s.heap s'.heap) (hok:HOk X.prog X.w H' s'.heap) (hg:AllBare s'.gens)
    (hch:∀ b∈ch,(b∈X.ex∨X.s_0.heap.objs.size≤b)∧b≠X.env.locals∧(∀ x c,X.env.cells.lookup x=some c→c≠b)∧∀ p∈X.pn++pins,p.1≠b):Inv X pins σ H' s':=by
  obtain ⟨h',g',d',t',o'⟩:=s'
  have e:o'=s.os:=ho
  subst e
  exact I.call (g':=g') (t':=t') (d':=d') u hok hg hch
end
abbrev XK:=Value→Option Addr→Hp→Prop
abbrev St:=List (Option V)
abbrev VK:=V→Hp→Prop
abbrev TE:=St→Hp→VK→Prop
abbrev TT:=St→Hp→(Bool→Hp→Prop)→Prop
abbrev TA:=St→Hp→(List V→Hp→Prop)→Prop
structure Ends where
  nx:St→Hp→Prop
  rt:VK
  bk:St→Hp→Prop:=fun _ _=>False
  ct:St→Hp→Prop:=fun _ _=>False
abbrev TS:=Ends→St→Hp→Prop
def EP (X:Cx) (pins:List (Addr × Obj)) (σ:St) (Q:VK) (u:Value) (s':Shared):Prop:=∃ v H',Inv X pins σ H' s'∧RelV v u∧Q v H'
def TP (X:Cx) (pins:List (Addr × Obj)) (σ:St) (Q:Bool→Hp→Prop) (b:Bool) (s':Shared):Prop:=∃ H',Inv X pins σ H' s'∧Q b H'
def AP (X:Cx) (pins:List (Addr × Obj)) (σ:St) (Q:List V→Hp→Prop) (us:List Value) (s':Shared):Prop:=∃ vs H',Inv X pins σ H' s'∧Vals vs us∧Q vs H'
def SP (X:Cx) (pins:List (Addr × Obj)) (D:Ends) (f:Flow) (s':Shared):Prop :=
  match f with
  | .next=>∃ σ' H',Inv X pins σ' H' s'∧D.nx σ' H'
  | .brk=>∃ σ' H',Inv X pins σ' H' s'∧D.bk σ' H'
  | .cont=>∃ σ' H',Inv X pins σ' H' s'∧D.ct σ' H'
  | .ret u=>∃ v σ' H',Inv X pins σ' H' s'∧RelV v u∧D.rt v H'
def PE (X:Cx) (e:Expr) (t:TE):Prop :=
  ∀ (pins:List (Addr × Obj)) (s:Shared) (σ:St) (H:Hp) (Q:VK),Inv X pins σ H s→t σ H Q→wpAny (model X.prog X.w) X.A (eval e X.env) (EP X pins σ Q) X.xe s
def PT (X:Cx) (e:Expr) (t:TT):Prop :=
  ∀ (pins:List (Addr × Obj)) (s:Shared) (σ:St) (H:Hp) (Q:Bool→Hp→Prop),Inv X pins σ H s→t σ H Q→wpAny (model X.prog X.w) X.A (isTrue e X.env (eval e X.env)) (TP X pins σ Q) X.xe s
def PW (X:Cx) (e:Expr) (t:TT):Prop :=
  ∀ (whole:Sem Value) (pins:List (Addr × Obj)) (s:Shared) (σ:St) (H:Hp) (Q:Bool→Hp→Prop),Inv X pins σ H s→t σ H Q→wpAny (model X.prog X.w) X.A (isTrue e X.env whole) (TP X pins σ Q) X.xe s
theorem PW.pt {X:Cx} {e:Expr} {t:TT} (h:PW X e t):PT X e t:=h _
def PA (X:Cx) (es:List Expr) (t:TA):Prop :=
  ∀ (pos:Pos) (pins:List (Addr × Obj)) (s:Shared) (σ:St) (H:Hp) (Q:List V→Hp→Prop),Inv X pins σ H s→t σ H Q→wpAny (model X.prog X.w) X.A (spliced (backTo pos (starEach es X.env))) (AP X pins σ Q) X.xe s
def PS (X:Cx) (st:Stmt) (t:TS):Prop :=
  ∀ (pins:List (Addr × Obj)) (s:Shared) (σ:St) (H:Hp) (D:Ends),Inv X pins σ H s→t D σ H→wpAny (model X.prog X.w) X.A (exec st X.env) (SP X pins D) X.xe s
def PSs (X:Cx) (st:List Stmt) (t:TS):Prop :=
  ∀ (pins:List (Addr × Obj)) (s:Shared) (σ:St) (H:Hp) (D:Ends),Inv X pins σ H s→t D σ H→wpAny (model X.prog X.w) X.A (execs st X.env) (SP X pins D) X.xe s
theorem thn {α:Type} {t:Sem α} {Q Q':α→Shared→Prop} {M:Model} {A:Around} {E:Value→Shared→Prop} {s:Shared} (h:wpAny M A t Q E s) (hQ:∀ a s,Q a s→Q' a s):wpAny M A t Q' E s:=wpAny_mono h hQ fun _ _ x=>x
end L2
namespace L2
open PySem PySem.Spec PyProof.Rows
section
variable {X:Cx}
inductive VarR (σ:St) (i:Nat) (H:Hp) (Q:VK):Prop
  | mk (v:V) (h:σ[i]?=some (some v)) (q:Q v H):VarR σ i H Q
def tVar (i:Nat):TE:=fun σ H Q=>VarR σ i H Q
def tC (v:V):TE:=fun _ H Q=>Q v H
theorem pe_var {i:Nat} {x:Str} {pos:Pos} (hN:X.N[i]?=some x) (hv:Vis X.env.scope x) (hd:(x == ("__debug__":Str))=false:=by decide) (hcd:(x == ("__classdict__":Str))=false:=by decide):PE X (.Name x pos) (tVar i):=by
  intro pins s σ H Q I h
  obtain ⟨v,e,h⟩:=h
  obtain ⟨m,hn,hl⟩:=I.loc
  obtain ⟨u,r,l⟩:=hl i x v hN e hv
  have fin:EP X pins σ Q u s:=⟨v,H,I,r,h⟩
  rcases l with ⟨hk,hm⟩ | ⟨hk,c,hc,hcell⟩
  · exact wpAny_Name (wpAny_loadName_local I.ok.kind hk hn hm fin) hd
  · rcases hk with hk | hk
    · exact wpAny_Name (wpAny_loadName_cell I.ok.kind hk hc hcell fin) hd
    · exact wpAny_Name (wpAny_loadName_free I.ok.kind hk hc hcell fin hcd) hd
theorem pe_int {i j pos}:PE X (.Constant (.int i) j pos) (tC (.int i)):=fun _ _ _ H _ I h=>wpAny_Constant_int ⟨.int i,H,I.tok _,⟨_,rfl⟩,h⟩
theorem pe_bl {b j pos}:PE X (.Constant (.bool b) j pos) (tC (.bl b)):=fun _ _ _ H _ I h=>Constant_bool ⟨.bl b,H,I,rfl,h⟩
theorem pe_non {j pos}:PE X (.Constant .none j pos) (tC .non):=fun _ _ _ H _ I h=>Constant_none ⟨.non,H,I,rfl,h⟩
def Gl (X:Cx) (x:Str):Prop:=X.env.kindOf x=some .globalImplicit
theorem ld_glob {E:Value→Shared→Prop} {pins:List (Addr × Obj)} {s:Shared} {σ:St} {H:Hp} {x:Str} {u:Value} {pos:Pos} {Q:Value→Shared→Prop} (I:Inv X pins σ H s) (hg:Gl X x) (hm:X.mg x=some u) (h:Q u s)
    (hd:(x == ("__debug__":Str))=false:=by decide):wpAny (model X.prog X.w) X.A (eval (.Name x pos) X.env) Q E s :=
  Calls.Name_function_global I.ok.kind hg (Calls.loadGlobal_global (by rw [I.ok.glob];exact I.mod.glob.keeps I.bk) hm h) hd
theorem ld_blt {E:Value→Shared→Prop} {pins:List (Addr × Obj)} {s:Shared} {σ:St} {H:Hp} {x:Str} {u:Value} {pos:Pos} {Q:Value→Shared→Prop} (I:Inv X pins σ H s) (hg:Gl X x) (hm:X.mg x=none) (hv:bootBuiltins x=some u) (h:Q u s)
    (hn:x≠"__name__":=by decide) (hd:(x == ("__debug__":Str))=false:=by decide):wpAny (model X.prog X.w) X.A (eval (.Name x pos) X.env) Q E s:=by
  obtain ⟨mb,h1,h2⟩:=I.mod.blt
  exact Calls.Name_function_global I.ok.kind hg (Calls.loadGlobal_builtin (by rw [I.ok.glob];exact I.mod.glob.keeps I.bk) hm (by rw [I.ok.blt];exact h1.keeps I.bk) ((h2 x hn).trans hv) h) hd
theorem pe_glob {x:Str} {v:V} {u:Value} {pos:Pos} (hg:Gl X x) (hm:X.mg x=some u) (r:RelV v u) (hd:(x == ("__debug__":Str))=false:=by decide):PE X (.Name x pos) (tC v) :=
  fun _ _ _ H _ I h=>ld_glob I hg hm ⟨v,H,I,r,h⟩ hd
variable {a b:Expr} {ta tb:TE} {pos:Pos}
def PC (X:Cx) (op:CmpOp) (a b:Expr) (t:TE):Prop :=
  ∀ (pins:List (Addr × Obj)) (s:Shared) (σ:St) (H:Hp) (Q:VK),Inv X pins σ H s→t σ H Q →
    wpAny (model X.prog X.w) X.A (eval a X.env) (fun v s₁=>wpAny (model X.prog X.w) X.A (eval b X.env) (fun u s₂=>wpAny (model X.prog X.w) X.A (compareOp op v u) (EP X pins σ Q) X.xe s₂) X.xe s₁) X.xe s
theorem nobehind (b:Expr) {op:CmpOp} (h:op≠.In) (h2:op≠.NotIn):behindInMarks op b=false:=by
  have e1:(op == CmpOp.In)=false:=by cases op <;> first | rfl | exact absurd rfl h
  have e2:(op == CmpOp.NotIn)=false:=by cases op <;> first | rfl | exact absurd rfl h2
  cases b <;> simp [behindInMarks,e1,e2]
def tIsN (ta:TE):TE:=fun σ H Q=>ta σ H fun x H1=>Q (.bl (decide (x=.non))) H1
def tNotN (ta:TE):TE:=fun σ H Q=>ta σ H fun x H1=>Q (.bl (!decide (x=.non))) H1
theorem RelV.none_iff {x:V} {v:Value} (r:RelV x v):(v == Value.none)=decide (x=.non):=by
  cases x with
  | non=>cases r;rfl
  | bl _=>cases r;rfl
  | int _=>obtain ⟨t,rfl⟩:=r;rfl
  | str _=>obtain ⟨t,rfl⟩:=r;rfl
  | byt _=>obtain ⟨t,rfl⟩:=r;rfl
  | flt _=>obtain ⟨t,rfl⟩:=r;rfl
  | ref _=>cases r;rfl
  | ty _=>cases r;rfl
theorem pc_isN {j pos'} (ha:PE X a ta):PC X .Is a (.Constant .none j pos') (tIsN ta):=by
  intro pins s σ H Q I h
  refine thn (ha pins s σ H _ I h) fun v s1 ⟨x,H1,I1,r1,q1⟩=>?_
  exact Constant_none (is_none_gen ⟨.bl _,H1,I1,by rw [r1.none_iff];rfl,q1⟩)
theorem pc_notN {j pos'} (ha:PE X a ta):PC X .IsNot a (.Constant .none j pos') (tNotN ta):=by
  intro pins s σ H Q I h
  refine thn (ha pins s σ H _ I h) fun v s1 ⟨x,H1,I1,r1,q1⟩=>?_
  exact Constant_none (isnot_none_gen ⟨.bl _,H1,I1,by rw [r1.none_iff];rfl,q1⟩)
inductive BlR (x:V) (H:Hp) (Q:Bool→Hp→Prop):Prop
  | mk (c:Bool) (e:x=.bl c) (q:Q c H):BlR x H Q
def tB (t:TE):TT:=fun σ H Q=>t σ H fun x H1=>BlR x H1 Q
theorem pt_cmp {op:CmpOp} {t:TE} (h:PC X op a b t) (h1:behindInMarks op b=false:=by first | exact nobehind _ (by decide) (by decide) | rfl):PT X (.Compare a [op] [b] pos) (tB t):=by
  intro pins s σ H Q I hw
  refine wpAny_isTrue_Compare1 (thn (h pins s σ H _ I hw) fun v s1 h1=>thn h1 fun u s2 h2=>thn h2 fun c s3 ⟨x,H1,I1,r1,q1⟩=>?_) h1
  obtain ⟨d,rfl,q⟩:=q1
  cases r1
  exact wpAny_truthy_bool ⟨H1,I1,q⟩
theorem pt_val {e:Expr} {t:TE} (h:PE X e t) (he:∀ whole,isTrue e X.env whole=(do let v ← whole;standAt e.pos;holding [v] (truthy v)):=by intro _;rfl):PT X e (tB t):=by
  intro pins s σ H Q I hw
  refine isTrue_plain (thn (h pins s σ H _ I hw) fun v s1 ⟨x,H1,I1,r1,q1⟩=>?_) (he _)
  obtain ⟨d,rfl,q⟩:=q1
  cases r1
  exact wpAny_truthy_bool ⟨H1,I1,q⟩
variable {tA tB':TT} {rest:List Expr}
def tAnd (t u:TT):TT:=fun σ H Q=>t σ H fun c H1=>if c=true then u σ H1 Q else Q false H1
def tOr (t u:TT):TT:=fun σ H Q=>t σ H fun c H1=>if c=true then Q true H1 else u σ H1 Q
def tNot (t:TT):TT:=fun σ H Q=>t σ H fun c H1=>Q (!c) H1
theorem pw_and1 (ha:PT X a tA):PW X (.BoolOp .And [a] pos) tA:=by
  intro wh pins s σ H Q I h
  refine isTrue_and (thn (ha pins s σ H Q I h) fun c s1 e=>?_)
  cases c with
  | true=>exact isTrue_and_nil e
  | false=>exact e
theorem pw_or1 (ha:PT X a tA):PW X (.BoolOp .Or [a] pos) tA:=by
  intro wh pins s σ H Q I h
  refine isTrue_or (thn (ha pins s σ H Q I h) fun c s1 e=>?_)
  cases c with
  | false=>exact isTrue_or_nil e
  | true=>exact e
theorem pw_and (ha:PT X a tA) (hb:PW X (.BoolOp .And (b::rest) pos) tB'):PW X (.BoolOp .And (a::b::rest) pos) (tAnd tA tB'):=by
  intro wh pins s σ H Q I h
  refine isTrue_and (thn (ha pins s σ H _ I h) fun c s1 ⟨H1,I1,q1⟩=>?_)
  cases c with
  | true=>exact hb wh pins s1 σ H1 Q I1 q1
  | false=>exact ⟨H1,I1,q1⟩
theorem pw_or (ha:PT X a tA) (hb:PW X (.BoolOp .Or (b::rest) pos) tB'):PW X (.BoolOp .Or (a::b::rest) pos) (tOr tA tB'):=by
  intro wh pins s σ H Q I h
  refine isTrue_or (thn (ha pins s σ H _ I h) fun c s1 ⟨H1,I1,q1⟩=>?_)
  cases c with
  | true=>exact ⟨H1,I1,q1⟩
  | false=>exact hb wh pins s1 σ H1 Q I1 q1
theorem pt_not (ha:PT X a tA):PT X (.UnaryOp .Not a pos) (tNot tA):=by
  intro pins s σ H Q I h
  exact isTrue_not (ha pins s σ H (fun c H1=>Q (!c) H1) I h)
def tAndV (ta tb:TE):TE:=fun σ H Q=>ta σ H fun x H1=>∃ c,x=.bl c∧if c=true then tb σ H1 Q else Q (.bl false) H1
def tNotV (ta:TE):TE:=fun σ H Q=>ta σ H fun x H1=>∃ c,x=.bl c∧Q (.bl (!c)) H1
theorem pe_one {op} {t:TE} (h:PE X a t):PE X (.BoolOp op [a] pos) t:=fun pins s σ H Q I hw=>BoolOp_one (h pins s σ H Q I hw)
theorem pe_and (ha:PE X a ta) (hb:PE X (.BoolOp .And (b::rest) pos) tb):PE X (.BoolOp .And (a::b::rest) pos) (tAndV ta tb):=by
  intro pins s σ H Q I h
  refine BoolOp_and (thn (ha pins s σ H _ I h) fun v s1 ⟨x,H1,I1,r1,q1⟩=>?_)
  obtain ⟨c,rfl,q1⟩:=q1
  cases r1
  refine wpAny_truthy_bool ?_
  cases c with
  | true=>exact hb pins s1 σ H1 Q I1 q1
  | false=>exact ⟨.bl false,H1,I1,rfl,q1⟩
theorem pe_not (ha:PE X a ta):PE X (.UnaryOp .Not a pos) (tNotV ta):=by
  intro pins s σ H Q I h
  refine UnaryOp_ (thn (ha pins s σ H _ I h) fun v s1 ⟨x,H1,I1,r1,q1⟩=>?_)
  obtain ⟨c,rfl,q1⟩:=q1
  cases r1
  exact not_of (wpAny_truthy_bool ⟨.bl (!c),H1,I1,rfl,q1⟩)
def tIf (t:TT) (ta tb:TE):TE:=fun σ H Q=>t σ H fun c H1=>if c=true then ta σ H1 Q else tb σ H1 Q
theorem pe_ifExp {c:Expr} (hc:PT X c tA) (ha:PE X a ta) (hb:PE X b tb):PE X (.IfExp c a b pos) (tIf tA ta tb):=by
  intro pins s σ H Q I h
  refine wpAny_IfExp (thn (hc pins s σ H _ I h) fun d s1 ⟨H1,I1,q1⟩=>?_)
  cases d with
  | true=>exact ha pins s1 σ H1 Q I1 q1
  | false=>exact hb pins s1 σ H1 Q I1 q1
end
end L2
namespace L2
open PySem PySem.Spec PyProof.Rows
def SqL (K:PySem.W.Frag) (H:Hp) (a:Addr) (xs:List V):Prop :=
  Rd H a (.lst xs) ∨
    ∃ (o:Obj) (its:Array Value) (n:Nat),K.lookup a=some o∧o.cls=.type "list"∧o.dict=none∧o.data=.seq its n∧its.size≤sizeLine∧Vals xs its.toList
def SqT (K:PySem.W.Frag) (H:Hp) (a:Addr) (xs:List V):Prop :=
  Rd H a (.tup xs) ∨
    ∃ (o:Obj) (its:Array Value) (n:Nat),K.lookup a=some o∧o.cls=.type "tuple"∧o.data=.seq its n∧its.size≤sizeLine∧Vals xs its.toList
def absV:Value→Option V
  | .none=>some .non
  | .bool b=>some (.bl b)
  | .int i _=>some (.int i)
  | .str x _=>some (.str x)
  | .bytes b _=>some (.byt b)
  | .float b _=>some (.flt b)
  | .ref a=>some (.ref a)
  | .type n=>some (.ty n)
  | _=>none
theorem RelV.abs {x:V} {u:Value} (r:RelV x u):absV u=some x:=by
  cases x with
  | non=>cases r;rfl
  | bl _=>cases r;rfl
  | int _=>obtain ⟨t,rfl⟩:=r;rfl
  | str _=>obtain ⟨t,rfl⟩:=r;rfl
  | byt _=>obtain ⟨t,rfl⟩:=r;rfl
  | flt _=>obtain ⟨t,rfl⟩:=r;rfl
  | ref _=>cases r;rfl
  | ty _=>cases r;rfl
theorem RelV.inj {x y:V} {u:Value} (r:RelV x u) (q:RelV y u):x=y:=Option.some.inj (r.abs.symm.trans q.abs)
theorem Vals.inj:∀ {xs ys:List V} {us:List Value},Vals xs us→Vals ys us→xs=ys
  | _,_,_,.nil,.nil=>rfl
  | _,_,_,.cons r t,.cons r' t'=>by rw [r.inj r',Vals.inj t t']
section
variable {X:Cx} {pins:List (Addr × Obj)} {σ:St} {H:Hp} {s:Shared} {a:Addr} {xs ys:List V}
theorem SqL.of {K:PySem.W.Frag} (h:H a=some (.lst xs)):SqL K H a xs:=.inl (.inl h)
theorem SqT.of {K:PySem.W.Frag} (h:H a=some (.tup xs)):SqT K H a xs:=.inl (.inl h)
theorem Inv.list (I:Inv X pins σ H s) (h:SqL X.K H a xs):∃ its:List Value,Vals xs its∧PlainL s.heap a its.toArray∧xs.length≤sizeLine:=by
  rcases h with h | ⟨o,its,n,hk,hc,hd,hs,hz,r⟩
  · obtain ⟨z,its,n,r,e⟩:=h.ok I.hok
    exact ⟨its,r,⟨_,n,e,rfl,rfl,rfl⟩,z⟩
  · refine ⟨its.toList,r,⟨o,n,I.kIn a o hk,hc,hd,by simpa using hs⟩,?_⟩
    have e:=r.length
    simp only [Array.length_toList] at e
    omega
theorem Inv.tuple (I:Inv X pins σ H s) (h:SqT X.K H a xs):∃ its:List Value,Vals xs its∧IsTup s.heap a its.toArray∧xs.length≤sizeLine:=by
  rcases h with h | ⟨o,its,n,hk,hc,hs,hz,r⟩
  · obtain ⟨z,its,r,p⟩:=h.ok I.hok
    exact ⟨its,r,p,z⟩
  · refine ⟨its.toList,r,⟨o,I.kIn a o hk,hc,n,by simpa using hs⟩,?_⟩
    have e:=r.length
    simp only [Array.length_toList] at e
    omega
theorem Inv.list_inj (I:Inv X pins σ H s) (h:SqL X.K H a xs) (h':SqL X.K H a ys):xs=ys:=by
  obtain ⟨its,r,⟨o,n,e,_,_,d⟩,_⟩:=I.list h
  obtain ⟨its',r',⟨o',n',e',_,_,d'⟩,_⟩:=I.list h'
  rw [e] at e';cases e'
  rw [d] at d'
  injection d' with d1 _
  have:its=its':=by simpa using congrArg Array.toList d1
  subst this
  exact r.inj r'
end
abbrev Cx.wish (X:Cx) (E:Value→Shared→Prop):Cx:={ X with xe:=E }
abbrev Cx.nox (X:Cx):Cx:=X.wish fun _ _=>False
theorem Cx.Ok.wish {X:Cx} (ok:X.Ok) (E:Value→Shared→Prop):(X.wish E).Ok :=
  ⟨ok.mod,ok.kind,ok.glob,ok.blt,ok.above,ok.inj,ok.has,ok.cab,ok.hd,ok.frames,ok.stk,ok.exf,ok.bs,ok.bsz,ok.noex,ok.exfs,ok.funs,ok.frf⟩
theorem Cx.Ok.unwish {X:Cx} {E:Value→Shared→Prop} (ok:(X.wish E).Ok):X.Ok :=
  ⟨ok.mod,ok.kind,ok.glob,ok.blt,ok.above,ok.inj,ok.has,ok.cab,ok.hd,ok.frames,ok.stk,ok.exf,ok.bs,ok.bsz,ok.noex,ok.exfs,ok.funs,ok.frf⟩
section
variable {X:Cx} {pins:List (Addr × Obj)} {σ:St} {H:Hp} {s:Shared} {E:Value→Shared→Prop}
theorem Inv.wish (I:Inv X pins σ H s) (E:Value→Shared→Prop):Inv (X.wish E) pins σ H s:=⟨I.ok.wish E,I.os,I.bare,I.base,I.loc,I.cell,I.free,I.freeC,I.pin,I.hok,I.len⟩
theorem Inv.unwish (I:Inv (X.wish E) pins σ H s):Inv X pins σ H s:=⟨I.ok.unwish,I.os,I.bare,I.base,I.loc,I.cell,I.free,I.freeC,I.pin,I.hok,I.len⟩
theorem SP.unwish {D:Ends} {f:Flow} {s':Shared} (h:SP (X.wish E) pins D f s'):SP X pins D f s':=by
  cases f with
  | next=>obtain ⟨σ',H',I,q⟩:=h;exact ⟨σ',H',I.unwish,q⟩
  | brk=>obtain ⟨σ',H',I,q⟩:=h;exact ⟨σ',H',I.unwish,q⟩
  | cont=>obtain ⟨σ',H',I,q⟩:=h;exact ⟨σ',H',I.unwish,q⟩
  | ret u=>obtain ⟨v,σ',H',I,r,q⟩:=h;exact ⟨v,σ',H',I.unwish,r,q⟩
theorem PSs.nox {st:List Stmt} {t:TS} (h:PSs X.nox st t):PSs X st t:=fun pins s σ H D I hw =>
  wpAny_mono (h pins s σ H D (I.wish _) hw) (fun _ _ q=>q.unwish) fun _ _ z=>False.elim z
end
section
variable {X:Cx} {st:Stmt} {rest:List Stmt} {t u:TS} {e:Expr} {te:TE} {pos:Pos}
def tNext:TS:=fun D σ H=>D.nx σ H
def tSeq (t u:TS):TS:=fun D σ H=>t { D with nx:=u D } σ H
theorem pss_nil:PSs X [] tNext:=fun _ _ σ H _ I h=>wpAny_execs_nil ⟨σ,H,I,h⟩
theorem pss_cons (h1:PS X st t) (h2:PSs X rest u):PSs X (st::rest) (tSeq t u):=by
  intro pins s σ H D I h
  refine wpAny_execs_cons (thn (h1 pins s σ H { D with nx:=u D } I h) fun f s1 q=>?_)
  cases f with
  | next =>
    obtain ⟨σ',H',I',q⟩:=q
    exact h2 pins s1 σ' H' D I' q
  | ret v=>exact q
  | brk=>exact q
  | cont=>exact q
theorem pss_one (h1:PS X st t):PSs X [st] t:=by
  intro pins s σ H D I h
  refine wpAny_execs_cons (thn (h1 pins s σ H D I h) fun f s1 q=>?_)
  cases f with
  | next=>exact wpAny_execs_nil q
  | ret v=>exact q
  | brk=>exact q
  | cont=>exact q
def tCont:TS:=fun D σ H=>D.ct σ H
theorem ps_continue:PS X (.Continue pos) tCont:=fun _ _ σ H _ I h=>wpAny_Continue ⟨σ,H,I,h⟩
theorem Inv.quiet {pins:List (Addr × Obj)} {σ:St} {H:Hp} {s:Shared} (I:Inv X pins σ H s):interactive X.env=false:=by simp [interactive,I.ok.kind]
def tDrop (te:TE):TS:=fun D σ H=>te σ H fun _ H1=>D.nx σ H1
theorem ps_expr (he:PE X e te) (hs:swapsWith e none pos.line X.env=pure false:=by rfl):PS X (.Expr e pos) (tDrop te):=by
  intro pins s σ H D I h
  exact wpAny_Expr_any (thn (he pins s σ H _ I h) fun v s1 ⟨x,H1,I1,r1,q1⟩=>⟨σ,H1,I1,q1⟩) I.quiet hs
def tRet (te:TE):TS:=fun D σ H=>te σ H D.rt
theorem ps_ret (he:PE X e te):PS X (.Return (some e) pos) (tRet te):=by
  intro pins s σ H D I h
  exact wpAny_Return_some (thn (he pins s σ H _ I h) fun v s1 ⟨x,H1,I1,r1,q1⟩=>⟨x,σ,H1,I1,r1,q1⟩)
def tIfS (c:TT) (t u:TS):TS:=fun D σ H=>c σ H fun b H1=>if b=true then t D σ H1 else u D σ H1
theorem ps_if {c:Expr} {a b:List Stmt} {tc:TT} (hc:PT X c tc) (ha:PSs X a t) (hb:PSs X b u):PS X (.If c a b pos) (tIfS tc t u):=by
  intro pins s σ H D I h
  refine wpAny_If (thn (hc pins s σ H _ I h) fun d s1 ⟨H1,I1,q1⟩=>?_)
  cases d with
  | true=>exact ha pins s1 σ H1 D I1 q1
  | false=>exact hb pins s1 σ H1 D I1 q1
end
abbrev TG:=V→St→Hp→(St→Hp→Prop)→Prop
abbrev TGs:=List V→St→Hp→(St→Hp→Prop)→Prop
def PG (X:Cx) (target:Expr) (t:TG):Prop :=
  ∀ (pins:List (Addr × Obj)) (s:Shared) (σ:St) (H:Hp) (v:V) (u:Value) (Q:St→Hp→Prop),Inv X pins σ H s→RelV v u→t v σ H Q →
    wpAny (model X.prog X.w) X.A (assign target X.env u) (fun _ s'=>∃ σ' H',Inv X pins σ' H' s'∧Q σ' H') X.xe s
def PGs (X:Cx) (ts:List Expr) (t:TGs):Prop :=
  ∀ (pins:List (Addr × Obj)) (s:Shared) (σ:St) (H:Hp) (vs:List V) (us:List Value) (Q:St→Hp→Prop),Inv X pins σ H s→Vals vs us→t vs σ H Q →
    wpAny (model X.prog X.w) X.A (assignInOrder ((assignEach ts X.env).map (·.2)) us) (fun _ s'=>∃ σ' H',Inv X pins σ' H' s'∧Q σ' H') X.xe s
abbrev TSet:=V→V→V→Hp→(Hp→Prop)→Prop
def PSet (X:Cx) (t:TSet):Prop :=
  ∀ (pins:List (Addr × Obj)) (s:Shared) (σ:St) (H:Hp) (o i v:V) (ov iv u:Value) (Q:Hp→Prop),Inv X pins σ H s→RelV o ov→RelV i iv→RelV v u→t o i v H Q →
    wpAny (model X.prog X.w) X.A (setItem ov iv u) (fun _ s'=>∃ H',Inv X pins σ H' s'∧Q H') X.xe s
section
variable {X:Cx} {pos:Pos}
def gName (i:Nat):TG:=fun v σ H Q=>Q (σ.set i (some v)) H
theorem pg_name {i:Nat} {x:Str} (hN:X.N.Nodup) (hi:X.N[i]?=some x) (hx:Loc X.env.scope x) (hf:X.fn x=true∨X.env.scope.names.lookup x=some .local:=by first | exact .inl rfl | exact .inr rfl | assumption):PG X (.Name x pos) (gName i):=by
  intro pins s σ H v u Q I r h
  exact wpAny_assign_Name (store_ok I hN hi hx r (fun s' I'=>⟨_,H,I',h⟩) hf)
def gNil:TGs:=fun vs σ H Q=>vs=[]∧Q σ H
def gCons (t:TG) (u:TGs):TGs:=fun vs σ H Q=>∃ v r,vs=v::r∧t v σ H fun σ' H'=>u r σ' H' Q
theorem pgs_nil:PGs X [] gNil:=by
  intro pins s σ H vs us Q I r h
  obtain ⟨e,h⟩:=h
  subst e
  cases r
  exact assignInOrder_nil ⟨σ,H,I,h⟩
theorem pgs_cons {e:Expr} {es:List Expr} {t:TG} {u:TGs} (h1:PG X e t) (h2:PGs X es u)
    (hs:(assignEach (e::es) X.env).map (·.2)=assign e X.env::(assignEach es X.env).map (·.2):=by rfl):PGs X (e::es) (gCons t u):=by
  intro pins s σ H vs us Q I r h
  obtain ⟨v,vr,e1,h⟩:=h
  subst e1
  cases r with
  | cons r rr =>
    rw [hs]
    refine assignInOrder_cons (thn (h1 pins s σ H _ _ _ I r h) fun _ s1 ⟨σ1,H1,I1,q1⟩=>?_)
    exact h2 pins s1 σ1 H1 _ _ Q I1 rr q1
def gTup (K:PySem.W.Frag) (n:Nat) (t:TGs):TG:=fun v σ H Q=>∃ a xs,v=.ref a∧SqT K H a xs∧xs.length=n∧t xs σ H Q
theorem pg_tup {es:List Expr} {k:Nat} {t:TGs} {n:Nat} (hc:X.calm=true) (h:PGs X es t)
    (hn:(assignEach es X.env).length=n:=by rfl) (hst:(assignEach es X.env).findIdx? (·.1)=none:=by rfl):PG X (.Tuple es k pos) (gTup X.K n t):=by
  intro pins s σ H v u Q I r hw
  obtain ⟨a,xs,e1,hq,hl,hw⟩:=hw
  subst e1
  cases r
  obtain ⟨its,rv,ht,hz⟩:=I.tuple hq
  refine assign_Tuple_tuple (I.ok.hd hc) ht (by simp [hn,← hl,rv.length]) hst fun h' hx=>?_
  have I1:Inv X pins σ H { s with heap:=h' }:=I.kept (t':=s.toks) fun b o e=>hx b o (Nat.ne_of_lt (Heap.lt_size e)) e
  exact h pins _ σ H xs _ Q I1 (by simpa using rv) hw
def gSub (to ti:TE) (t:TSet):TG:=fun v σ H Q=>to σ H fun o H1=>ti σ H1 fun i H2=>t o i v H2 fun H3=>Q σ H3
theorem pg_sub {o i:Expr} {to ti:TE} {t:TSet} (ho:PE X o to) (hi:PE X i ti) (hs:PSet X t)
    (ha:∀ v,assign (.Subscript o i pos) X.env v=(do
      let ov ← holding [v] (eval o X.env)
      let iv ← holding [v,ov] (eval i X.env)
      standAt pos
      holding [v,ov,iv] (setItem ov iv v)
      release [v,ov,iv] []):=by intro _;rfl):PG X (.Subscript o i pos) (gSub to ti t):=by
  intro pins s σ H v u Q I r h
  rw [ha]
  refine wpAny_bind (wpAny_holding (thn (ho pins s σ H _ I h) fun ov s1 ⟨x,H1,I1,r1,q1⟩=>?_))
  refine wpAny_bind (wpAny_holding (thn (hi pins s1 σ H1 _ I1 q1) fun iv s2 ⟨y,H2,I2,r2,q2⟩=>?_))
  refine wpAny_bind (wpAny_standAt (wpAny_bind (wpAny_holding (thn (hs pins s2 σ H2 x y v ov iv u _ I2 r1 r2 r q2) fun _ s3 ⟨H3,I3,q3⟩=>?_))))
  exact wpAny_release ⟨σ,H3,I3,q3⟩
def tAsg (te:TE) (g:TG):TS:=fun D σ H=>te σ H fun x H1=>g x σ H1 D.nx
theorem ps_asg {tg e:Expr} {te:TE} {g:TG} (he:PE X e te) (hg:PG X tg g) (hs:swapsWithSole [tg] e pos.line X.env=pure false:=by rfl) (hw:swappedStores [tg] e X.env=pure none:=by rfl)
    (h1:(assignEach [tg] X.env).map (·.2)=[assign tg X.env]:=by rfl):PS X (.Assign [tg] e pos) (tAsg te g):=by
  intro pins s σ H D I h
  refine wpAny_Assign_stores (thn (he pins s σ H _ I h) fun v s1 ⟨x,H1,I1,r1,q1⟩=>?_) hs hw
  rw [h1]
  exact thn (hg pins s1 σ H1 x v _ I1 r1 q1) fun _ s2 q=>q
theorem ps_set {i:Nat} {x:Str} {e:Expr} {te:TE} {pos':Pos} (hN:X.N.Nodup) (hi:X.N[i]?=some x) (hx:Loc X.env.scope x) (he:PE X e te) (hs:swapsWith e (some (.Name x pos')) pos.line X.env=pure false:=by rfl) (hf:X.fn x=true∨X.env.scope.names.lookup x=some .local:=by first | exact .inl rfl | exact .inr rfl | assumption) :
    PS X (.Assign [.Name x pos'] e pos) (tAsg te (gName i)):=by
  intro pins s σ H D I h
  refine wpAny_Assign_Name (thn (he pins s σ H _ I h) fun v s1 ⟨y,H1,I1,r1,q1⟩=>?_) hs
  exact store_ok I1 hN hi hx r1 (fun s2 I2=>⟨_,H1,I2,q1⟩) hf
end
section
variable {X:Cx} {pos:Pos}
def tWhile (c:TT) (tb:TS):TS:=fun D σ H=>∃ W:Nat→St→Hp→Prop,(∃ m,W m σ H)∧∀ m σ H,W m σ H →
  c σ H fun b H1=>if b=true then ∃ N:St→Hp→Prop,(∀ σ' H',N σ' H'→∃ m',m' < m∧W m' σ' H')∧tb { D with nx:=N,ct:=N,bk:=D.nx } σ H1 else D.nx σ H1
theorem ps_while {c:Expr} {body:List Stmt} {tc:TT} {tb:TS} (hp:PassesOwn (model X.prog X.w) X.A X.env X.xe) (hc:PT X c tc) (hb:PSs X body tb):PS X (.While c body [] pos) (tWhile tc tb):=by
  intro pins s σ H D I h
  obtain ⟨W,⟨m0,w0⟩,turn⟩:=h
  refine wpAny_While (codeAny_whileLoop (fun n s'=>∃ σ' H',Inv X pins σ' H' s'∧W n σ' H') ?_ m0 ⟨σ,H,I,w0⟩)
  rintro n s1 ⟨σ1,H1,I1,w1⟩
  refine wpAny_passesOwn hp (thn (hc pins s1 σ1 H1 _ I1 (turn n σ1 H1 w1)) fun b s2 ⟨H2,I2,q2⟩=>?_)
  cases b with
  | true =>
    obtain ⟨N,hN,q2⟩:=q2
    rw [if_pos rfl]
    refine wpAny_passesOwn hp (thn (hb pins s2 σ1 H2 _ I2 q2) fun f s3 q3=>?_)
    cases f with
    | next =>
      obtain ⟨σ3,H3,I3,n3⟩:=q3
      obtain ⟨m',hm,w3⟩:=hN σ3 H3 n3
      exact ⟨m',hm,σ3,H3,I3,w3⟩
    | cont =>
      obtain ⟨σ3,H3,I3,n3⟩:=q3
      obtain ⟨m',hm,w3⟩:=hN σ3 H3 n3
      exact ⟨m',hm,σ3,H3,I3,w3⟩
    | brk=>exact q3
    | ret v=>exact q3
  | false =>
    rw [if_neg Bool.false_ne_true]
    exact wpAny_execs_nil ⟨σ1,H2,I2,q2⟩
end
structure It where
  go:Nat→Hp→Prop
  yld:Nat→Hp→V→Hp→Prop
  stop:Nat→Hp→Prop
def FpOk (X:Cx) (pins:List (Addr × Obj)) (H:Hp) (b:Addr):Prop :=
  H b=none∧b≠X.env.locals∧b∉X.fs∧(b∈X.ex∨X.s_0.heap.objs.size≤b)∧(∀ x c,X.env.cells.lookup x=some c→c≠b)∧∀ p∈X.pn++pins,p.1≠b
theorem Inv.fpOk {X:Cx} {pins:List (Addr × Obj)} {σ:St} {H H':Hp} {s:Shared} {b:Addr} (I:Inv X pins σ H s) (hb:s.heap.objs.size≤b) (hn:H' b=none):FpOk X pins H' b:=by
  refine ⟨hn,Nat.ne_of_gt (Nat.lt_of_lt_of_le I.lt hb),I.nofs hb,.inr (Nat.le_trans I.sz hb),fun x c e z=>?_,fun p hp z=>?_⟩
  · obtain ⟨v,q⟩:=I.cell x c e
    exact absurd (Nat.lt_of_lt_of_le q.lt (by rw [z];exact hb)) (Nat.lt_irrefl _)
  · exact absurd (Nat.lt_of_lt_of_le (Heap.lt_size (I.pin p hp).1) (by rw [z];exact hb)) (Nat.lt_irrefl _)
structure Turn (P:Program) (w:World) (K:PySem.W.Frag) (tg:Expr) (J:It) (fp:List Addr) (it:Addr) (tn:Nat→Heap→Prop):Prop where
  mem:it∈fp
  obj:∀ i h,tn i h→∀ b∈fp,∃ o,h.get? b=some o∧∀ v,o.data≠.cell v
  keep:∀ i h h',tn i h→(∀ b∈fp,∀ o,h.get? b=some o→h'.get? b=some o)→tn i h'
  item:∀ (X:Cx),X.prog=P→X.w=w→X.K=K→X.calm=true→∀ (i:Nat) (pins:List (Addr × Obj)) (s:Shared) (σ:St) (H:Hp) (E:Value→Shared→Prop),Inv X pins σ H s→(∀ b∈fp,FpOk X pins H b)→tn i s.heap→J.go i H →
    wpAny (model P w) X.A (pyNext (.ref it)) (fun r s1=>∃ u,r=some u ∧
      wpAny (model P w) X.A (letOwnedTupleGo tg (.ref it) u) (fun _ s2=>∃ x H',Inv X pins σ H' s2∧RelV x u∧J.yld i H x H'∧tn (i + 1) s2.heap∧∀ b∈fp,H' b=none) E s1) E s
  done:∀ (X:Cx),X.prog=P→X.w=w→X.K=K→X.calm=true→∀ (i:Nat) (pins:List (Addr × Obj)) (s:Shared) (σ:St) (H:Hp) (E:Value→Shared→Prop),Inv X pins σ H s→(∀ b∈fp,FpOk X pins H b)→tn i s.heap→J.stop i H →
    wpAny (model P w) X.A (pyNext (.ref it)) (fun r s1=>r=none∧Inv X pins σ H s1) E s
  self:∀ (A:Around) (i:Nat) (s:Shared) (Q:Value→Shared→Prop) (E:Value→Shared→Prop),tn i s.heap→Q (.ref it) s→wpAny (model P w) A (pyIter (.ref it)) Q E s
abbrev TI:=St→Hp→(It→Hp→Prop)→Prop
def PIE (X:Cx) (pins:List (Addr × Obj)) (σ:St) (tg:Expr) (R:It→Hp→Prop) (itv:Value) (s2:Shared):Prop :=
  ∃ (it:Addr) (fp:List Addr) (tn:Nat→Heap→Prop) (J:It) (H':Hp),itv=.ref it∧Inv X pins σ H' s2∧Turn X.prog X.w X.K tg J fp it tn∧tn 0 s2.heap∧(∀ b∈fp,FpOk X pins H' b)∧R J H'
def PI (X:Cx) (tg iter:Expr) (wi:TI):Prop :=
  ∀ (pins:List (Addr × Obj)) (s:Shared) (σ:St) (H:Hp) (R:It→Hp→Prop),Inv X pins σ H s→wi σ H R →
    wpAny (model X.prog X.w) X.A (eval iter X.env) (fun v s1=>wpAny (model X.prog X.w) X.A (pyIter v) (PIE X pins σ tg R) X.xe s1) X.xe s
theorem go_of {M:Model} {A:Around} {E:Value→Shared→Prop} {s:Shared} {tg:Expr} {it:Addr} {u:Value} {o:Obj} {n:String} {vs:Array Value} {Q:Unit→Shared→Prop} (ho:s.heap.get? it=some o) (hc:o.cls=.type n) (hd:o.data=.fields vs)
    (hn:["enumerate","zip","dict_itemiterator","dict_reverseitemiterator","odict_iterator","itertools.zip_longest","itertools.pairwise"].contains n=false) (hQ:Q () s):wpAny M A (letOwnedTupleGo tg (.ref it) u) Q E s:=by
  unfold letOwnedTupleGo
  cases tg <;> first
    | exact wpAny_pure hQ
    | (cases u <;> first
        | exact wpAny_pure hQ
        | (refine wpAny_bind (wpAny_load ho ?_)
           rw [hc,hd]
           show wpAny M A (if (["enumerate","zip","dict_itemiterator","dict_reverseitemiterator","odict_iterator","itertools.zip_longest","itertools.pairwise"].contains n && vs[0]? == some (rawInt _))=true then _ else _) Q E s
           rw [if_neg (by intro h;rw [hn,Bool.false_and] at h;cases h)]
           exact wpAny_pure hQ))
def Itl (K:PySem.W.Frag) (a:Addr):It :=
  ⟨fun i H=>∃ xs x,SqL K H a xs∧xs[i]?=some x,fun i H x H'=>H'=H∧∀ xs,SqL K H a xs→xs[i]?=some x,fun i H=>∃ xs,SqL K H a xs∧xs.length≤i⟩
def Itr (lo:Int) (n:Nat):It:=⟨fun i _=>i < n,fun i H x H'=>H'=H∧x=.int (lo + i),fun i _=>n≤i⟩
theorem turn_list {P:Program} {w:World} {K:PySem.W.Frag} {tg:Expr} (a it:Addr):Turn P w K tg (Itl K a) [it] it (fun i h=>h.IsListIter it a i) where
  mem:=by simp
  obj:=fun i h st b hb=>by
    have e:b=it:=by simpa using hb
    subst e
    obtain ⟨o,e,c,d⟩:=st
    exact ⟨o,e,fun v z=>by rw [d] at z;cases z⟩
  keep:=fun i h h' st k=>st.at fun o e=>k it (by simp) o e
  item:=by
    intro X hP hw hK hc i pins s σ H E I hf st hg
    subst hP hw hK
    obtain ⟨xs,x,hq,hx⟩:=hg
    obtain ⟨its,rv,p,hz⟩:=I.list hq
    obtain ⟨u,hu,ru⟩:=rv.get hx
    obtain ⟨f0,f1,f2,f3,f4,f5⟩:=hf it (by simp)
    refine wpAny_pyNext_list_item st p.isList (x:=u) (by simpa using hu) fun h' st' sb=>?_
    have I1:Inv X pins σ H { s with heap:=h' }:=I.turned (t':=s.toks) (fun b o hb e=>(sb.2 b hb).trans e) f0 f1 f3 f4 f5
    obtain ⟨o,e,c,d⟩:=id st'
    exact ⟨u,rfl,go_of (s:={ s with heap:=h' }) e c d (by decide) ⟨x,H,I1,ru,⟨rfl,fun ys hy=>by rw [I.list_inj hy hq];exact hx⟩,st',fun b hb=>(hf b hb).1⟩⟩
  done:=by
    intro X hP hw hK hc i pins s σ H E I hf st hg
    subst hP hw hK
    obtain ⟨xs,hq,hx⟩:=hg
    obtain ⟨its,rv,p,hz⟩:=I.list hq
    obtain ⟨f0,f1,f2,f3,f4,f5⟩:=hf it (by simp)
    have hl:=rv.length
    exact wpAny_pyNext_list_end (I.ok.hd hc) st p.isList (by simp;omega) fun h' eb=>⟨rfl,I.turned (t':=s.toks) (fun b o hb e=>eb b o hb e) f0 f1 f3 f4 f5⟩
  self:=fun _ _ _ _ _ st h=>wpAny_pyIter_listiter st h
theorem turn_range {P:Program} {w:World} {K:PySem.W.Frag} {tg:Expr} (it:Addr) (lo:Int) (n:Nat):Turn P w K tg (Itr lo n) [it] it (fun i h=>IsRangeIter h it (lo + (i:Nat) * 1) ((n:Int) - (i:Nat)) 1) where
  mem:=by simp
  obj:=fun i h st b hb=>by
    have e:b=it:=by simpa using hb
    subst e
    exact ⟨_,st,fun v z=>by
      have z':Data.fields _=Data.cell v:=z
      cases z'⟩
  keep:=fun i h h' st k=>k it (by simp) _ st
  item:=by
    intro X hP hw hK hc i pins s σ H E I hf st hg
    subst hP hw hK
    obtain ⟨f0,f1,f2,f3,f4,f5⟩:=hf it (by simp)
    have W:=Walks.range (prog:=X.prog) (w:=X.w) (I.ok.hd hc) it lo 1 n
    refine W.item i s _ _ hg st fun v h' tk hv st' kk=>?_
    obtain ⟨t,rfl⟩:=hv
    have I1:Inv X pins σ H { s with heap:=h',toks:=tk }:=I.turned (fun b o hb e=>kk b o (by simpa using hb) e) f0 f1 f3 f4 f5
    refine ⟨_,rfl,go_of (s:={ s with heap:=h',toks:=tk }) (n:="range_iterator") st' rfl rfl (by decide) ⟨.int (lo + i),H,I1,⟨t,?_⟩,⟨rfl,rfl⟩,st',fun b hb=>(hf b hb).1⟩⟩
    rw [Int.mul_one]
  done:=by
    intro X hP hw hK hc i pins s σ H E I hf st hg
    subst hP hw hK
    obtain ⟨f0,f1,f2,f3,f4,f5⟩:=hf it (by simp)
    exact wpAny_pyNext_range_end (I.ok.hd hc) st (by have:n≤i:=hg;omega) fun h' eb=>⟨rfl,I.turned (t':=s.toks) (fun b o hb e=>eb b o hb e) f0 f1 f3 f4 f5⟩
  self:=fun _ _ _ _ _ st h=>wpAny_pyIter_rangeiter st h
end L2
namespace L2
open PySem PySem.Spec PyProof.Rows
section
variable {X:Cx} {tg:Expr}
def iList (K:PySem.W.Frag) (tl:TE):TI:=fun σ H R=>tl σ H fun x H1=>∃ a,x=.ref a∧(∃ xs,SqL K H1 a xs)∧R (Itl K a) H1
theorem pi_list {l:Expr} {tl:TE} (hl:PE X l tl):PI X tg l (iList X.K tl):=by
  intro pins s σ H R I h
  refine thn (hl pins s σ H _ I h) fun v s1 ⟨x,H1,I1,r1,q1⟩=>?_
  obtain ⟨a,e,⟨xs,hq⟩,q⟩:=q1
  subst e
  cases r1
  obtain ⟨its,rv,p,hz⟩:=I1.list hq
  refine wpAny_pyIter_list p.isList ?_
  refine ⟨s1.heap.objs.size,[s1.heap.objs.size],_,_,H1,rfl,I1.kept (t':=s1.toks) fun b o e=>Heap.get?_push_of_some _ e,turn_list a _,⟨_,Heap.get?_push_size _ rfl,rfl,rfl⟩,fun b hb=>?_,q⟩
  have e:b=s1.heap.objs.size:=by simpa using hb
  subst e
  exact I1.fpOk (Nat.le_refl _) (I1.hok.fresh (Nat.le_refl _))
theorem range_it {pins:List (Addr × Obj)} {σ:St} {H:Hp} {s:Shared} {R:It→Hp→Prop} {E:Value→Shared→Prop} {lo hi:Int} {t u v:Tok} {tk:Nat} (I:Inv X pins σ H s) (h1:-(2 ^ 62)≤lo) (h2:lo < 2 ^ 62) (h3:-(2 ^ 62)≤hi) (h4:hi < 2 ^ 62)
    (q:R (Itr lo (hi - lo).toNat) H):wpAny (model X.prog X.w) X.A (pyIter (.ref s.heap.objs.size)) (PIE X pins σ tg R) E { s with heap:=s.heap.push { cls:=.type "range",data:=.fields #[.int lo t,.int hi u,.int 1 v] },toks:=tk }:=by
  refine wpAny_pyIter_range (IsRange.new ..) (small_one h1 h2 h3 h4) ?_
  have I1:Inv X pins σ H { s with heap:=s.heap.push { cls:=.type "range",data:=.fields #[.int lo t,.int hi u,.int 1 v] },toks:=tk }:=I.kept fun b o e=>Heap.get?_push_of_some _ e
  refine ⟨(s.heap.push { cls:=.type "range",data:=.fields #[.int lo t,.int hi u,.int 1 v] }).objs.size,[(s.heap.push { cls:=.type "range",data:=.fields #[.int lo t,.int hi u,.int 1 v] }).objs.size],_,_,H,rfl,
    I1.kept (t':=tk) fun b o e=>Heap.get?_push_of_some _ e,turn_range _ lo (hi - lo).toNat,?_,fun b hb=>?_,q⟩
  · have e1:lo + ((0:Nat):Int) * 1=lo:=by simp
    have e2:(((hi - lo).toNat:Nat):Int) - ((0:Nat):Int)=Builtin.Range.rangeSize lo hi 1:=by rw [rangeSize_one];split <;> omega
    show IsRangeIter _ _ (lo + ((0:Nat):Int) * 1) ((((hi - lo).toNat:Nat):Int) - ((0:Nat):Int)) 1
    rw [e1,e2]
    exact Heap.get?_push_size _ rfl
  · have e:b=(s.heap.push { cls:=.type "range",data:=.fields #[.int lo t,.int hi u,.int 1 v] }).objs.size:=by simpa using hb
    subst e
    exact I1.fpOk (Nat.le_refl _) (I1.hok.fresh (Nat.le_refl _))
def iRng1 (ta:TA):TI:=fun σ H R=>ta σ H fun vs H1=>∃ j:Int,vs=[.int j]∧-(2 ^ 62)≤j∧j < 2 ^ 62∧R (Itr 0 j.toNat) H1
theorem pi_range1 {a:Expr} {ta:TA} {p pos:Pos} (hg:Gl X "range") (hm:X.mg "range"=none) (ha:PA X [a] ta) (hs:starEach [a] X.env=[(false,eval a X.env)]:=by rfl):PI X tg (.Call (.Name "range" p) [a] [] pos) (iRng1 ta):=by
  intro pins s σ H R I h
  refine Call_ (ld_blt I hg hm boot_range (PyProof.Rows.callWith_type1 (thn (ha pos pins s σ H _ I h) fun us s1 ⟨vs,H1,I1,r1,q1⟩=>?_) hs rfl))
  obtain ⟨j,e,q1,q2,q⟩:=q1
  subst e
  cases r1 with
  | cons r rr =>
    cases rr
    obtain ⟨t,rfl⟩:=r
    exact call_range_1 (range_it I1 (by omega) (by omega) q1 q2 (by simpa using q))
def tFor (wi:TI) (g:TG) (tb:TS):TS:=fun D σ H=>wi σ H fun J H1=>∃ W:Nat→Nat→St→Hp→Prop,(∃ m,W 0 m σ H1)∧∀ i m σ H,W i m σ H →
  (J.stop i H∧D.nx σ H)∨(J.go i H∧∃ N:St→Hp→Prop,(∀ σ' H',N σ' H'→∃ m',m' < m∧W (i + 1) m' σ' H')∧∀ x H',J.yld i H x H'→g x σ H' fun σ2 H2=>tb { D with nx:=N,ct:=N,bk:=D.nx } σ2 H2)
def pinsAt (fp:List Addr) (h:Heap):List (Addr × Obj):=fp.filterMap fun b=>(h.get? b).map fun o=>(b,o)
theorem mem_pinsAt {fp:List Addr} {h:Heap} {b:Addr} {o:Obj} (hb:b∈fp) (e:h.get? b=some o):(b,o)∈pinsAt fp h:=List.mem_filterMap.mpr ⟨b,hb,by rw [e];rfl⟩
theorem of_pinsAt {fp:List Addr} {h:Heap} {p:Addr × Obj} (hp:p∈pinsAt fp h):p.1∈fp∧h.get? p.1=some p.2:=by
  obtain ⟨b,hb,e⟩:=List.mem_filterMap.mp hp
  cases q:h.get? b with
  | none=>rw [q] at e;cases e
  | some o =>
    rw [q] at e
    have e':(b,o)=p:=Option.some.inj e
    subst e'
    exact ⟨hb,q⟩
theorem Inv.pinned {pins:List (Addr × Obj)} {σ:St} {H:Hp} {s:Shared} {fp:List Addr} (I:Inv X pins σ H s) (hf:∀ b∈fp,FpOk X pins H b) (ho:∀ b∈fp,∃ o,s.heap.get? b=some o∧∀ v,o.data≠.cell v):Inv X (pins++pinsAt fp s.heap) σ H s :=
  I.pins_of fun p hp=>(List.mem_append.mp hp).elim (fun z=>I.pin p (List.mem_append_right _ z)) fun z=>by
    obtain ⟨hb,e⟩:=of_pinsAt z
    obtain ⟨f0,f1,f2,_⟩:=hf p.1 hb
    obtain ⟨o,e',d⟩:=ho p.1 hb
    rw [e] at e';cases e'
    exact ⟨e,f0,f1,f2,d⟩
theorem Inv.unpinned {pins pl:List (Addr × Obj)} {σ:St} {H:Hp} {s:Shared} (I:Inv X (pins++pl) σ H s):Inv X pins σ H s:=I.pins_of fun p hp=>I.pin p (List.mem_append_right _ (List.mem_append_left _ hp))
theorem ps_for {iter:Expr} {body:List Stmt} {wi:TI} {g:TG} {tb:TS} {pos:Pos} (hp:PassesOwn (model X.prog X.w) X.A X.env X.xe) (hc:X.calm=true) (hi:PI X tg iter wi) (hg:PG X tg g) (hb:PSs X body tb)
    (hs:∀ x,foldedSetIterable iter X.env x=pure x:=by intro _;rfl):PS X (.For tg iter body [] pos) (tFor wi g tb):=by
  intro pins s σ H D I h
  refine wpAny_For (thn (hi pins s σ H _ I h) fun v s1 h1=>thn h1 fun itv s2 h2=>?_) hs
  obtain ⟨it,fp,tn,J,H2,e,I2,T,st2,f2,W,⟨m0,w0⟩,turn⟩:=h2
  subst e
  have stat:∀ {H':Hp},(∀ b∈fp,H' b=none)→∀ b∈fp,FpOk X pins H' b:=fun hn b hb=>⟨hn b hb,(f2 b hb).2⟩
  refine codeAny_forLoop_any (fun n s'=>∃ i σ' H',Inv X pins σ' H' s'∧tn i s'.heap∧(∀ b∈fp,H' b=none)∧W i n σ' H') ?_ m0 ⟨0,σ,H2,I2,st2,fun b hb=>(f2 b hb).1,w0⟩
  rintro n s3 ⟨i,σ3,H3,I3,st3,fr3,w3⟩
  rcases turn i n σ3 H3 w3 with ⟨stop,qn⟩ | ⟨go,N,hN,step⟩
  · refine wpAny_passesOwn hp (thn (T.done X rfl rfl rfl hc i pins s3 σ3 H3 X.xe I3 (stat fr3) st3 stop) fun r s4 ⟨hr,I4⟩=>?_)
    subst hr
    exact wpAny_execs_nil ⟨σ3,H3,I4,qn⟩
  · refine wpAny_passesOwn hp (thn (T.item X rfl rfl rfl hc i pins s3 σ3 H3 X.xe I3 (stat fr3) st3 go) fun r s4 ⟨u,hr,h4⟩=>?_)
    subst hr
    refine wpAny_passesOwn hp (thn h4 fun _ s5 ⟨x,H5,I5,r5,y5,st5,fr5⟩=>?_)
    have I5':=I5.pinned (stat fr5) (T.obj _ _ st5)
    refine wpAny_passesOwn hp (thn (hg _ s5 σ3 H5 x u _ I5' r5 (step x H5 y5)) fun _ s6 ⟨σ6,H6,I6,q6⟩=>?_)
    refine wpAny_passesOwn hp (thn (hb _ s6 σ6 H6 _ I6 q6) fun f s7 q7=>?_)
    have again:∀ {σ7:St} {H7:Hp},Inv X (pins++pinsAt fp s5.heap) σ7 H7 s7→N σ7 H7→∃ m,m < n∧∃ i σ' H',Inv X pins σ' H' s7∧tn i s7.heap∧(∀ b∈fp,H' b=none)∧W i m σ' H':=fun {σ7 H7} I7 n7=>by
      obtain ⟨m',hm,w7⟩:=hN σ7 H7 n7
      refine ⟨m',hm,i + 1,σ7,H7,I7.unpinned,T.keep _ _ _ st5 fun b hb o e=>(I7.pin (b,o) (List.mem_append_right _ (List.mem_append_right _ (mem_pinsAt hb e)))).1,fun b hb=>?_,w7⟩
      obtain ⟨o,e,d⟩:=T.obj _ _ st5 b hb
      exact (I7.pin (b,o) (List.mem_append_right _ (List.mem_append_right _ (mem_pinsAt hb e)))).2.1
    cases f with
    | next=>obtain ⟨σ7,H7,I7,n7⟩:=q7;exact again I7 n7
    | cont=>obtain ⟨σ7,H7,I7,n7⟩:=q7;exact again I7 n7
    | brk=>obtain ⟨σ7,H7,I7,q7⟩:=q7;exact ⟨σ7,H7,I7.unpinned,q7⟩
    | ret v=>obtain ⟨x7,σ7,H7,I7,r7,q7⟩:=q7;exact ⟨x7,σ7,H7,I7.unpinned,r7,q7⟩
end
theorem for_list {K:PySem.W.Frag} {a:Addr} {xs:List V} {g:TG} {tb:TS} {D:Ends} {σ:St} {H:Hp} (Pv:Nat→St→Hp→Prop) (h0:Pv 0 σ H) (hl:∀ i σ H,i≤xs.length→Pv i σ H→SqL K H a xs)
    (hs:∀ i x σ H,xs[i]?=some x→Pv i σ H→g x σ H fun σ2 H2=>tb { D with nx:=Pv (i + 1),ct:=Pv (i + 1),bk:=D.nx } σ2 H2) (hd:∀ σ H,Pv xs.length σ H→D.nx σ H) :
    ∃ W:Nat→Nat→St→Hp→Prop,(∃ m,W 0 m σ H)∧∀ i m σ H,W i m σ H →
      ((Itl K a).stop i H∧D.nx σ H)∨((Itl K a).go i H∧∃ N:St→Hp→Prop,(∀ σ' H',N σ' H'→∃ m',m' < m∧W (i + 1) m' σ' H')∧∀ x H',(Itl K a).yld i H x H'→g x σ H' fun σ2 H2=>tb { D with nx:=N,ct:=N,bk:=D.nx } σ2 H2):=by
  refine ⟨fun i m σ H=>m=xs.length - i∧i≤xs.length∧Pv i σ H,⟨xs.length,by simp,Nat.zero_le _,h0⟩,?_⟩
  rintro i m σ H ⟨rfl,hi,p⟩
  have q:=hl i σ H hi p
  by_cases hlt:i < xs.length
  · refine .inr ⟨⟨xs,xs[i],q,by simp [hlt]⟩,Pv (i + 1),fun σ' H' p'=>⟨xs.length - (i + 1),by omega,rfl,hlt,p'⟩,fun x H' y=>?_⟩
    obtain ⟨e,y⟩:=y
    subst e
    exact hs i x σ _ (y xs q) p
  · have e:i=xs.length:=by omega
    subst e
    exact .inl ⟨⟨xs,q,Nat.le_refl _⟩,hd σ H p⟩
theorem for_range {lo:Int} {n:Nat} {g:TG} {tb:TS} {D:Ends} {σ:St} {H:Hp} (Pv:Nat→St→Hp→Prop) (h0:Pv 0 σ H)
    (hs:∀ i σ H,i < n→Pv i σ H→g (.int (lo + i)) σ H fun σ2 H2=>tb { D with nx:=Pv (i + 1),ct:=Pv (i + 1),bk:=D.nx } σ2 H2) (hd:∀ σ H,Pv n σ H→D.nx σ H) :
    ∃ W:Nat→Nat→St→Hp→Prop,(∃ m,W 0 m σ H)∧∀ i m σ H,W i m σ H →
      ((Itr lo n).stop i H∧D.nx σ H)∨((Itr lo n).go i H∧∃ N:St→Hp→Prop,(∀ σ' H',N σ' H'→∃ m',m' < m∧W (i + 1) m' σ' H')∧∀ x H',(Itr lo n).yld i H x H'→g x σ H' fun σ2 H2=>tb { D with nx:=N,ct:=N,bk:=D.nx } σ2 H2):=by
  refine ⟨fun i m σ H=>m=n - i∧i≤n∧Pv i σ H,⟨n,by simp,Nat.zero_le _,h0⟩,?_⟩
  rintro i m σ H ⟨rfl,hi,p⟩
  by_cases hlt:i < n
  · refine .inr ⟨hlt,Pv (i + 1),fun σ' H' p'=>⟨n - (i + 1),by omega,rfl,hlt,p'⟩,fun x H' y=>?_⟩
    obtain ⟨e,y⟩:=y
    subst e y
    exact hs i σ _ hlt p
  · have e:i=n:=by omega
    subst e
    exact .inl ⟨Nat.le_refl _,hd σ H p⟩
end L2
namespace L2
open PySem PySem.Spec PyProof.Rows
abbrev R2:=V→V→Hp→VK→Prop
def OpR (X:Cx) (f:Value→Value→Sem Value) (r:R2):Prop :=
  ∀ (pins:List (Addr × Obj)) (s:Shared) (σ:St) (H:Hp) (x y:V) (v u:Value) (Q:VK),Inv X pins σ H s→RelV x v→RelV y u→r x y H Q →
    wpAny (model X.prog X.w) X.A (f v u) (EP X pins σ Q) X.xe s
def CallR (X:Cx) (f:Value) (r:List V→Hp→VK→Prop):Prop :=
  ∀ (pins:List (Addr × Obj)) (s:Shared) (σ:St) (H:Hp) (xs:List V) (us:List Value) (Q:VK),Inv X pins σ H s→Vals xs us→r xs H Q →
    wpAny (model X.prog X.w) X.A (call f us) (EP X pins σ Q) X.xe s
def tOp (r:R2) (ta tb:TE):TE:=fun σ H Q=>ta σ H fun x H1=>tb σ H1 fun y H2=>r x y H2 Q
inductive I0R (g:Int→Int→V) (x y:V) (H:Hp) (Q:VK):Prop
  | mk (i j:Int) (e1:x=.int i) (e2:y=.int j) (q:Q (g i j) H):I0R g x y H Q
def rI0 (g:Int→Int→V):R2:=fun x y H Q=>I0R g x y H Q
section
variable {X:Cx} {a b c:Expr} {ta tb tc:TE} {pos:Pos}
theorem binT (ha:PE X a ta) (hb:PE X b tb) {pins:List (Addr × Obj)} {s:Shared} {σ:St} {H:Hp} {R:V→V→Hp→Prop} (I:Inv X pins σ H s)
    (h:ta σ H fun x H1=>tb σ H1 fun y H2=>R x y H2) {Q:Value→Shared→Prop} {f:Value→Value→Sem Value}
    (hf:∀ v u s2 x y H2,Inv X pins σ H2 s2→RelV x v→RelV y u→R x y H2→wpAny (model X.prog X.w) X.A (f v u) Q X.xe s2) :
    wpAny (model X.prog X.w) X.A (eval a X.env) (fun v s₁=>wpAny (model X.prog X.w) X.A (eval b X.env) (fun u s₂=>wpAny (model X.prog X.w) X.A (f v u) Q X.xe s₂) X.xe s₁) X.xe s:=by
  refine thn (ha pins s σ H _ I h) fun v s1 ⟨x,H1,I1,r1,q1⟩=>?_
  refine thn (hb pins s1 σ H1 _ I1 q1) fun u s2 ⟨y,H2,I2,r2,q2⟩=>?_
  exact hf v u s2 x y H2 I2 r1 r2 q2
theorem pe_op {op:Operator} {r:R2} (ho:OpR X (binaryOp op) r) (ha:PE X a ta) (hb:PE X b tb):PE X (.BinOp a op b pos) (tOp r ta tb):=by
  intro pins s σ H Q I h
  exact wpAny_BinOp (binT ha hb I h fun v u s2 x y H2 I2 rx ry q=>ho pins s2 σ H2 x y v u Q I2 rx ry q)
theorem opI0 {f:Value→Value→Sem Value} {g:Int→Int→Int}
    (rule:∀ (i j:Int) (t u:Tok) (s:Shared) (Q:Value→Shared→Prop) (E:Value→Shared→Prop),Q (.int (g i j) s.toks) { s with toks:=s.toks + 1 }→wpAny (model X.prog X.w) X.A (f (.int i t) (.int j u)) Q E s) :
    OpR X f (rI0 fun i j=>.int (g i j)):=by
  intro pins s σ H x y v u Q I rx ry h
  obtain ⟨i,j,rfl,rfl,q⟩:=h
  obtain ⟨t,rfl⟩:=rx
  obtain ⟨t',rfl⟩:=ry
  exact rule i j t t' s _ _ ⟨.int (g i j),H,I.tok _,⟨_,rfl⟩,q⟩
theorem opB0 {f:Value→Value→Sem Value} {g:Int→Int→Bool}
    (rule:∀ (i j:Int) (t u:Tok) (s:Shared) (Q:Value→Shared→Prop) (E:Value→Shared→Prop),Q (.bool (g i j)) s→wpAny (model X.prog X.w) X.A (f (.int i t) (.int j u)) Q E s) :
    OpR X f (rI0 fun i j=>.bl (g i j)):=by
  intro pins s σ H x y v u Q I rx ry h
  obtain ⟨i,j,rfl,rfl,q⟩:=h
  obtain ⟨t,rfl⟩:=rx
  obtain ⟨t',rfl⟩:=ry
  exact rule i j t t' s _ _ ⟨.bl (g i j),H,I,rfl,q⟩
theorem op_add:OpR X (binaryOp .Add) (rI0 fun i j=>.int (i + j)):=opI0 fun _ _ _ _ _ _ _ q=>add_int q
theorem op_sub:OpR X (binaryOp .Sub) (rI0 fun i j=>.int (i - j)):=opI0 fun _ _ _ _ _ _ _ q=>sub_int q
theorem op_and:OpR X (binaryOp .BitAnd) (rI0 fun i j=>.int (Builtin.bitAnd i j)):=opI0 fun _ _ _ _ _ _ _ q=>and_int q
theorem op_or:OpR X (binaryOp .BitOr) (rI0 fun i j=>.int (Builtin.bitOr i j)):=opI0 fun _ _ _ _ _ _ _ q=>or_int q
end
def scal:V→V→Bool
  | .non,.non=>true | .non,.int _=>true | .int _,.non=>true | .non,.bl _=>true | .bl _,.non=>true | .non,.str _=>true | .str _,.non=>true
  | .int _,.int _=>true | .bl _,.bl _=>true | .str _,.str _=>true | .byt _,.byt _=>true
  | .int _,.str _=>true | .str _,.int _=>true | .bl _,.str _=>true | .str _,.bl _=>true
  | _,_=>false
def rEq:R2:=fun x y H Q=>scal x y=true∧Q (.bl (decide (x=y))) H
def rNe:R2:=fun x y H Q=>scal x y=true∧Q (.bl (!decide (x=y))) H
theorem dec_int {i j:Int}:decide (V.int i=V.int j)=(i == j):=by
  rw [Bool.eq_iff_iff]
  simp
theorem dec_bl {i j:Bool}:decide (V.bl i=V.bl j)=(i == j):=by
  rw [Bool.eq_iff_iff]
  simp
theorem dec_str {i j:Str}:decide (V.str i=V.str j)=(i == j):=by
  rw [Bool.eq_iff_iff]
  simp
theorem dec_byt {i j:Array UInt8}:decide (V.byt i=V.byt j)=(i.toList == j.toList):=by
  rw [Bool.eq_iff_iff]
  cases i
  cases j
  simp
section
variable {X:Cx} {a b c:Expr} {ta tb tc:TE} {pos:Pos}
theorem fin_bl {pins:List (Addr × Obj)} {σ:St} {H:Hp} {s:Shared} {Q:VK} {k k':Bool} (I:Inv X pins σ H s) (q:Q (.bl k) H) (e:k=k'):EP X pins σ Q (.bool k') s:=by
  subst e
  exact ⟨.bl k,H,I,rfl,q⟩
theorem op_eq:OpR X (compareOp .Eq) rEq:=by
  intro pins s σ H x y v u Q I rx ry h
  obtain ⟨hs,q⟩:=h
  cases x with
  | non =>
    cases rx
    cases y with
    | non=>cases ry;exact PySem.EqNone.eq_none_none (fin_bl I q (by simp))
    | bl j=>cases ry;exact PySem.EqNone.eq_none_bool (fin_bl I q (by simp))
    | int j=>obtain ⟨t',rfl⟩:=ry;exact PySem.EqNone.eq_none_int (fin_bl I q (by simp))
    | str j=>obtain ⟨t',rfl⟩:=ry;exact PySem.EqNone.eq_none_str (fin_bl I q (by simp))
    | _=>exact absurd (show false=true from hs) Bool.false_ne_true
  | bl i =>
    cases rx
    cases y with
    | non=>cases ry;exact PySem.EqNone.eq_bool_none (fin_bl I q (by simp))
    | bl j=>cases ry;exact eq_bool (fin_bl I q dec_bl)
    | str j=>obtain ⟨t',rfl⟩:=ry;exact PySem.EqMixed.eq_bool_str (fin_bl I q (by simp))
    | _=>exact absurd (show false=true from hs) Bool.false_ne_true
  | int i =>
    obtain ⟨t,rfl⟩:=rx
    cases y with
    | non=>cases ry;exact PySem.EqNone.eq_int_none (fin_bl I q (by simp))
    | int j=>obtain ⟨t',rfl⟩:=ry;exact eq_int (fin_bl I q dec_int)
    | str j=>obtain ⟨t',rfl⟩:=ry;exact PySem.EqMixed.eq_int_str (fin_bl I q (by simp))
    | _=>exact absurd (show false=true from hs) Bool.false_ne_true
  | str i =>
    obtain ⟨t,rfl⟩:=rx
    cases y with
    | non=>cases ry;exact PySem.EqNone.eq_str_none (fin_bl I q (by simp))
    | bl j=>cases ry;exact PySem.EqMixed.eq_str_bool (fin_bl I q (by simp))
    | int j=>obtain ⟨t',rfl⟩:=ry;exact PySem.EqMixed.eq_str_int (fin_bl I q (by simp))
    | str j=>obtain ⟨t',rfl⟩:=ry;exact eq_str (fin_bl I q dec_str)
    | _=>exact absurd (show false=true from hs) Bool.false_ne_true
  | byt i =>
    obtain ⟨t,rfl⟩:=rx
    cases y with
    | byt j=>obtain ⟨t',rfl⟩:=ry;exact PySem.W.eq_bytes (fin_bl I q dec_byt)
    | _=>exact absurd (show false=true from hs) Bool.false_ne_true
  | _=>cases y <;> exact absurd (show false=true from hs) Bool.false_ne_true
theorem op_ne:OpR X (compareOp .NotEq) rNe:=by
  intro pins s σ H x y v u Q I rx ry h
  obtain ⟨hs,q⟩:=h
  cases x with
  | non =>
    cases rx
    cases y with
    | non=>cases ry;exact PySem.EqNone.ne_none_none (fin_bl I q (by simp))
    | bl j=>cases ry;exact PySem.EqNone.ne_none_bool (fin_bl I q (by simp))
    | int j=>obtain ⟨t',rfl⟩:=ry;exact PySem.EqNone.ne_none_int (fin_bl I q (by simp))
    | str j=>obtain ⟨t',rfl⟩:=ry;exact PySem.EqNone.ne_none_str (fin_bl I q (by simp))
    | _=>exact absurd (show false=true from hs) Bool.false_ne_true
  | bl i =>
    cases rx
    cases y with
    | non=>cases ry;exact PySem.EqNone.ne_bool_none (fin_bl I q (by simp))
    | bl j=>cases ry;exact ne_bool (fin_bl I q (congrArg not dec_bl))
    | str j=>obtain ⟨t',rfl⟩:=ry;exact PySem.EqMixed.ne_bool_str (fin_bl I q (by simp))
    | _=>exact absurd (show false=true from hs) Bool.false_ne_true
  | int i =>
    obtain ⟨t,rfl⟩:=rx
    cases y with
    | non=>cases ry;exact PySem.EqNone.ne_int_none (fin_bl I q (by simp))
    | int j=>obtain ⟨t',rfl⟩:=ry;exact ne_int (fin_bl I q (congrArg not dec_int))
    | str j=>obtain ⟨t',rfl⟩:=ry;exact PySem.EqMixed.ne_int_str (fin_bl I q (by simp))
    | _=>exact absurd (show false=true from hs) Bool.false_ne_true
  | str i =>
    obtain ⟨t,rfl⟩:=rx
    cases y with
    | non=>cases ry;exact PySem.EqNone.ne_str_none (fin_bl I q (by simp))
    | bl j=>cases ry;exact PySem.EqMixed.ne_str_bool (fin_bl I q (by simp))
    | int j=>obtain ⟨t',rfl⟩:=ry;exact PySem.EqMixed.ne_str_int (fin_bl I q (by simp))
    | str j=>obtain ⟨t',rfl⟩:=ry;exact ne_str (fin_bl I q (congrArg not dec_str))
    | _=>exact absurd (show false=true from hs) Bool.false_ne_true
  | byt i =>
    obtain ⟨t,rfl⟩:=rx
    cases y with
    | byt j=>obtain ⟨t',rfl⟩:=ry;exact PySem.W.ne_bytes (fin_bl I q (congrArg not dec_byt))
    | _=>exact absurd (show false=true from hs) Bool.false_ne_true
  | _=>cases y <;> exact absurd (show false=true from hs) Bool.false_ne_true
theorem op_lt:OpR X (compareOp .Lt) (rI0 fun i j=>.bl (decide (i < j))):=opB0 fun _ _ _ _ _ _ _ q=>lt_int q
theorem op_le:OpR X (compareOp .LtE) (rI0 fun i j=>.bl (decide (i≤j))):=opB0 fun _ _ _ _ _ _ _ q=>le_int q
theorem op_gt:OpR X (compareOp .Gt) (rI0 fun i j=>.bl (decide (j < i))):=opB0 fun _ _ _ _ _ _ _ q=>gt_int q
theorem op_ge:OpR X (compareOp .GtE) (rI0 fun i j=>.bl (decide (j≤i))):=opB0 fun _ _ _ _ _ _ _ q=>ge_int q
theorem nomark (b:Expr) {op:CmpOp} (h:op≠.In:=by decide) (h2:op≠.NotIn:=by decide):behindInMarks op b=false:=by
  have e1:(op == CmpOp.In)=false:=by cases op <;> first | rfl | exact absurd rfl h
  have e2:(op == CmpOp.NotIn)=false:=by cases op <;> first | rfl | exact absurd rfl h2
  cases b <;> simp [behindInMarks,e1,e2]
theorem pe_cmpR {op:CmpOp} {r:R2} (ho:OpR X (compareOp op) r) (ha:PE X a ta) (hb:PE X b tb) (hm:behindInMarks op b=false):PE X (.Compare a [op] [b] pos) (tOp r ta tb):=by
  intro pins s σ H Q I h
  exact wpAny_Compare1 (binT ha hb I h fun v u s2 x y H2 I2 rx ry q=>ho pins s2 σ H2 x y v u Q I2 rx ry q) hm
def tTest (t:TE):TT:=fun σ H Q=>t σ H fun x H'=>BlR x H' Q
theorem pt_cmpR {op:CmpOp} {r:R2} (ho:OpR X (compareOp op) r) (ha:PE X a ta) (hb:PE X b tb) (hm:behindInMarks op b=false):PT X (.Compare a [op] [b] pos) (tTest (tOp r ta tb)):=by
  intro pins s σ H Q I h
  refine wpAny_isTrue_Compare1 (thn (ha pins s σ H _ I h) fun v s1 ⟨x,H1,I1,r1,q1⟩=>thn (hb pins s1 σ H1 _ I1 q1) fun u s2 ⟨y,H2,I2,r2,q2⟩ =>
    thn (ho pins s2 σ H2 x y v u _ I2 r1 r2 q2) fun c s3 ⟨z,H3,I3,r3,k,e,q3⟩=>?_) hm
  subst e
  cases r3
  exact wpAny_truthy_bool ⟨H3,I3,q3⟩
def tChain (r r':R2) (ta tb tc:TE):TE:=fun σ H Q=>ta σ H fun x H1=>tb σ H1 fun y H2=>r x y H2 fun z H3=>∃ k,z=.bl k ∧
  (if k=true then tc σ H3 fun w' H4=>r' y w' H4 Q else Q (.bl false) H3)
theorem pe_chain {op op':CmpOp} {r r':R2} (ho:OpR X (compareOp op) r) (ho':OpR X (compareOp op') r') (ha:PE X a ta) (hb:PE X b tb) (hc:PE X c tc)
    (hm:lastMarks [op,op'] [b,c]=false:=by with_unfolding_all rfl):PE X (.Compare a [op,op'] [b,c] pos) (tChain r r' ta tb tc):=by
  intro pins s σ H Q I h
  refine Compare_chain (thn (ha pins s σ H _ I h) fun v s1 ⟨x,H1,I1,r1,q1⟩=>chain_link (thn (hb pins s1 σ H1 _ I1 q1) fun u s2 ⟨y,H2,I2,r2,q2⟩ =>
    thn (ho pins s2 σ H2 x y v u _ I2 r1 r2 q2) fun d s3 ⟨z,H3,I3,r3,k,e,q3⟩=>?_)) hm
  subst e
  cases r3
  refine wpAny_truthy_bool ?_
  cases k with
  | false=>exact ite_ff ⟨.bl false,H3,I3,rfl,q3⟩
  | true=>exact ite_tt (chain_last (thn (hc pins s3 σ H3 _ I3 q3) fun w' s4 ⟨z',H4,I4,r4,q4⟩=>ho' pins s4 σ H4 y z' u w' Q I4 r2 r4 q4))
theorem line63:(sizeLine:Nat) < 2 ^ 63:=by rw [sizeLine_eq];decide
theorem vals1 {x:V} {us:List Value} (r:Vals [x] us):∃ u,us=[u]∧RelV x u:=by
  cases r with
  | cons r1 r2=>cases r2;exact ⟨_,rfl,r1⟩
theorem vals2 {x y:V} {us:List Value} (r:Vals [x,y] us):∃ u w',us=[u,w']∧RelV x u∧RelV y w':=by
  cases r with
  | cons r1 r2 =>
    cases r2 with
    | cons r3 r4=>cases r4;exact ⟨_,_,rfl,r1,r3⟩
end
end L2
namespace L2
open PySem PySem.Spec PyProof.Rows
structure ObjM (h:Heap) (x dx C:Addr) (mA:Str→Option Value):Prop where
  obj:h.get? x=some (PySem.W.instObj C dx)
  ns:h.Ns1 dx mA
  ne:dx≠x
theorem lookIn_ns {h:Heap} {dx:Addr} {mA:Str→Option Value} (n:h.Ns1 dx mA):∃ od,h.get? dx=some od∧∀ name,PySem.W.lookIn name od=some (mA name):=by
  obtain ⟨o,es,ep,ho,hd,hk,_,hm⟩:=n
  refine ⟨o,ho,fun name=>?_⟩
  have e:=hm name
  unfold nsFind findBy at e
  rw [← Array.find?_toList] at e
  unfold PySem.W.lookIn
  rw [hd]
  dsimp only
  split
  · rename_i y q
    rw [q] at e
    exact congrArg some e
  · rename_i q
    rw [q] at e
    have a:es.toList.any (·.refKey)=false:=by
      rw [List.any_eq_false]
      intro y hy
      obtain ⟨z,t,hkey⟩:=hk y (Array.mem_toList_iff.mp hy)
      simp [DictEntry.refKey,hkey]
    have a':¬ es.toList.any (·.refKey)=true:=by rw [a];exact Bool.false_ne_true
    rw [if_neg a']
    exact congrArg some e
theorem ObjM.look {h:Heap} {x dx C:Addr} {mA:Str→Option Value} (I:ObjM h x dx C mA):∃ od,PySem.W.InstAt h x (PySem.W.instObj C dx) C (some od)∧∀ name,PySem.W.lookIn name od=some (mA name) :=
  let ⟨od,ho,hl⟩:=lookIn_ns I.ns
  ⟨od,⟨I.obj,rfl,rfl,ho⟩,hl⟩
section
variable {prog:Program} {w:World} {A:Around} {E:Value→Shared→Prop} {s:Shared} {K:PySem.W.Frag} {x dx C f:Addr} {mA:Str→Option Value} {name:Str} {v:Value}
theorem get_map {expr:Bool} {Q:Value→Shared→Prop} (X:K.In s.heap) (I:ObjM s.heap x dx C mA) (hg:PySem.W.plainGet K C name=true) (hh:PySem.W.hasDictIn K C=true)
    (ha:PySem.W.findIn K (.ref C) name=some none) (hv:mA name=some v) (hv':PySem.W.handedIn v=true) (h:Q v { s with toks:=s.toks + 1 }) :
    wpAny (model prog w) A (getAttr (.ref x) name expr) Q E s:=by
  obtain ⟨od,J,hl⟩:=I.look
  exact PySem.W.get_value X J (PySem.W.plainGet_of hg).1 (PySem.W.findObj_own hh ha rfl (by rw [hl,hv])) hv' h
theorem get_meth {pl:Sem Bool} {Q:Value × List Value→Shared→Prop} (X:K.In s.heap) (I:ObjM s.heap x dx C mA) (hg:PySem.W.plainGet K C name=true)
    (hf:PySem.W.findIn K (.ref C) name=some (some (.ref f))) (ht:PySem.W.isFn K (.ref f)=true) (hv:mA name=none) (h:Q (.ref f,[.ref x]) s) :
    wpAny (model prog w) A (getMethod (.ref x) name pl) Q E s:=by
  obtain ⟨od,J,hl⟩:=I.look
  exact PySem.W.method_fn X J (PySem.W.plainGet_of hg).1 (PySem.W.plainGet_of hg).2 hf (beq_iff_eq.mp ht) (by show (PySem.W.lookIn name od).map (·.isSome)=some false;rw [hl,hv];rfl) h
theorem set_map {ns:List Str} {Q:Unit→Shared→Prop} (X:K.In s.heap) (I:ObjM s.heap x dx C mA)
    (hs:PySem.W.findIn K (.ref C) "__setattr__"=some (some (.builtin "object.__setattr__"))) (hp:PySem.W.plainOver K C=true) (ht:PySem.W.takerIn K C name=some none) (hh:PySem.W.hasDictIn K C=true)
    (hw:PySem.Within mA ns) (hsz:ns.length≤sizeLine)
    (h:∀ h',ObjM h' x dx C (fun y=>if y=name then some v else mA y)→Heap.SameBut dx s.heap h'→Q () { s with heap:=h',toks:=s.toks + 2 }) :
    wpAny (model prog w) A (setAttr (.ref x) name v) Q E s:=by
  obtain ⟨od,J,hl⟩:=I.look
  refine PySem.W.set_plain X J hs (PySem.W.osa_open (s:={ s with toks:=s.toks + 1 }) (r:=none) X J hp ht fun b=>?_)
  obtain ⟨cd,hc,hd'⟩:=PySem.W.any_some hh
  have hx:s.heap.get? x=some ⟨.ref C,some dx,.plain,#[]⟩:=I.obj
  refine wpAny_bind (wpAny_pure (wpAny_bind (wpAny_bind (wpAny_loadPart hx (wpAny_bind (PySem.W.Looks.here (s:={ s with toks:=s.toks + 1 }) (PySem.W.looks_clsIn X hc) ?_))))))
  rw [hd']
  refine wpAny_pure (a:=some dx) (wpAny_bind (wpAny_pure (wpAny_bind ?_)))
  refine wpAny_nsSet1 (s:={ s with toks:=s.toks + 1 }) I.ns fun h' hn2 hs2=>?_
  obtain ⟨oD,esD,epD,hoD,hdD,hcD⟩:=hn2.count (PySem.Within.cons name v hw)
  refine wpAny_bind (wpAny_lookBehind hoD (by rw [hdD];exact pastItsLine_dict (Nat.le_trans hcD (by rw [List.length_cons];omega))) ?_)
  exact wpAny_pure (h _ ⟨(hs2.2 _ (Ne.symm I.ne)).trans I.obj,hn2,I.ne⟩ hs2)
theorem make_map {R:Result→Shared→Prop} {vs:List Value} {kw:List (Str × Value)} (X:K.In s.heap) (hm:PySem.W.makesIn K C=true)
    (hi:PySem.W.findIn K (.ref C) "__init__"=some (some (.ref f))) (hf:PySem.W.typeIn K (.ref f)=some (.type "function"))
    (h:codeAny (model prog w) (A.under (.builtin "type.__call__" ⟨.ref C::vs,kw⟩)) (.call (.ref f) ⟨.ref (s.heap.objs.size + 1)::vs,kw⟩) (PySem.W.InitBack (s.heap.objs.size + 1) R)
      { s with heap:=(s.heap.push PySem.W.emptyDict).push (PySem.W.instObj C s.heap.objs.size) }) :
    codeAny (model prog w) A (.call (.ref C) ⟨vs,kw⟩) R s:=by
  obtain ⟨hh,g,d,t,os⟩:=s
  exact PySem.W.make_core (PySem.W.makes_of X hm) (PySem.W.looks_findIn X hi) (fun self=>PySem.W.bind_fn X self hf) (.inl rfl) h
end
def putF (f:Str) (v:V):List (Str × V)→List (Str × V)
  | []=>[(f,v)]
  | (g,x)::r=>if g=f then (g,v)::r else (g,x)::putF f v r
theorem lookup_putF (f g:Str) (v:V):∀ fs:List (Str × V),(putF f v fs).lookup g=if g=f then some v else fs.lookup g
  | []=>by
    show List.lookup g [(f,v)]=_
    by_cases h:g=f
    · have hb:(g == f)=true:=beq_iff_eq.mpr h
      simp only [List.lookup,hb,if_pos h]
    · have hb:(g == f)=false:=beq_eq_false_iff_ne.mpr h
      simp only [List.lookup,hb,if_neg h]
  | (k,x)::r=>by
    have ih:=lookup_putF f g v r
    rw [show putF f v ((k,x)::r)=(if k=f then (k,v)::r else (k,x)::putF f v r) from rfl]
    by_cases hk:k=f
    · rw [if_pos hk]
      by_cases h:g=k
      · have hb:(g == k)=true:=beq_iff_eq.mpr h
        simp only [List.lookup,hb,if_pos (h.trans hk)]
      · have hb:(g == k)=false:=beq_eq_false_iff_ne.mpr h
        simp only [List.lookup,hb,if_neg (fun e:g=f=>h (e.trans hk.symm))]
    · rw [if_neg hk]
      by_cases h:g=k
      · have hb:(g == k)=true:=beq_iff_eq.mpr h
        simp only [List.lookup,hb,if_neg (fun e:g=f=>hk (h.symm.trans e))]
      · have hb:(g == k)=false:=beq_eq_false_iff_ne.mpr h
        simp only [List.lookup,hb]
        exact ih
theorem keys_putF (f:Str) (v:V):∀ fs:List (Str × V),f∈(putF f v fs).map (·.1)∧∀ g,g∈fs.map (·.1)→g∈(putF f v fs).map (·.1)
  | []=>⟨by simp [putF],fun g h=>by simp at h⟩
  | (k,x)::r=>by
    obtain ⟨i1,i2⟩:=keys_putF f v r
    rw [show putF f v ((k,x)::r)=(if k=f then (k,v)::r else (k,x)::putF f v r) from rfl]
    by_cases hk:k=f
    · rw [if_pos hk]
      subst hk
      exact ⟨by simp,fun g h=>by simpa using h⟩
    · rw [if_neg hk]
      refine ⟨?_,fun g h=>?_⟩
      · rw [List.map_cons]
        exact List.mem_cons_of_mem _ i1
      · rw [List.map_cons] at h ⊢
        rcases List.mem_cons.mp h with e | e
        · exact List.mem_cons.mpr (.inl e)
        · exact List.mem_cons_of_mem _ (i2 g e)
theorem length_putF (f:Str) (v:V):∀ fs:List (Str × V),(putF f v fs).length≤fs.length + 1
  | []=>by simp [putF]
  | (k,x)::r=>by
    have ih:=length_putF f v r
    rw [show putF f v ((k,x)::r)=(if k=f then (k,v)::r else (k,x)::putF f v r) from rfl]
    by_cases hk:k=f
    · rw [if_pos hk,List.length_cons,List.length_cons];omega
    · rw [if_neg hk,List.length_cons,List.length_cons];omega
theorem RelO.some_of {v:V} {o:Option Value} (r:RelO (some v) o):∃ u,o=some u∧RelV v u:=by
  cases o with
  | none=>exact (show False from r).elim
  | some u=>exact ⟨u,rfl,r⟩
theorem RelO.none_of {o:Option Value} (r:RelO none o):o=none:=by
  cases o with
  | none=>rfl
  | some u=>exact (show False from r).elim
theorem handed_of {v:V} {u:Value} (r:RelV v u):PySem.W.handedIn u=true:=by
  cases v with
  | non=>cases (show u=Value.none from r);rfl
  | bl b=>cases (show u=Value.bool b from r);rfl
  | int i=>obtain ⟨t,e⟩:=(show ∃ t,u=Value.int i t from r);cases e;rfl
  | str x=>obtain ⟨t,e⟩:=(show ∃ t,u=Value.str x t from r);cases e;rfl
  | byt b=>obtain ⟨t,e⟩:=(show ∃ t,u=Value.bytes b t from r);cases e;rfl
  | flt b=>obtain ⟨t,e⟩:=(show ∃ t,u=Value.float b t from r);cases e;rfl
  | ref a=>cases (show u=Value.ref a from r);rfl
  | ty n=>cases (show u=Value.type n from r);rfl
section
variable {P:Program} {w:World} {H H':Hp} {h h':Heap} {a C dx:Addr} {fs fs':List (Str × V)}
theorem ins_get (hok:HOk P w H h) (e:H a=some (.ins C dx fs)):∃ mA,ObjM h a dx C mA∧(∀ f,RelO (fs.lookup f) (mA f))∧PySem.Within mA (fs.map (·.1))∧fs.length≤1000∧H dx=some (.own a):=by
  obtain ⟨d,z,ne,ob,mA,n,r,q⟩:=(show ObjOk P w H h a (.ins C dx fs) from hok a _ e)
  exact ⟨mA,⟨ob,n,ne⟩,r,q,z,d⟩
end
structure Cls (K:PySem.W.Frag) (C:Addr):Prop where
  pg:PySem.W.plainGet K C Str.empty=true
  hd:PySem.W.hasDictIn K C=true
  po:PySem.W.plainOver K C=true
  sa:PySem.W.findIn K (.ref C) "__setattr__"=some (some (.builtin "object.__setattr__"))
theorem Cls.get {K:PySem.W.Frag} {C:Addr} (c:Cls K C) (f:Str):PySem.W.plainGet K C f=true:=c.pg
def NoAttr (K:PySem.W.Frag) (C:Addr) (f:Str):Prop:=PySem.W.findIn K (.ref C) f=some none
theorem NoAttr.taker {K:PySem.W.Frag} {C:Addr} {f:Str} (n:NoAttr K C f):PySem.W.takerIn K C f=some none:=by
  unfold PySem.W.takerIn
  rw [show PySem.W.findIn K (.ref C) f=some none from n]
  rfl
structure Meth (K:PySem.W.Frag) (C:Addr) (m:Str) (f:Addr):Prop where
  at_:PySem.W.findIn K (.ref C) m=some (some (.ref f))
  fn:PySem.W.isFn K (.ref f)=true
  kp:PySem.W.keepIn K (.ref f)=true
section
variable {X:Cx} {pins:List (Addr × Obj)} {σ:St} {H:Hp} {s:Shared} {a C dx:Addr} {fs:List (Str × V)} {f:Str} {v:V} {A:Around} {E:Value→Shared→Prop}
theorem getattr_ok {b:Bool} {Q:Value→Shared→Prop} (I:Inv X pins σ H s) (e:H a=some (.ins C dx fs)) (c:Cls X.K C) (n:NoAttr X.K C f) (l:fs.lookup f=some v)
    (h:∀ u s',Inv X pins σ H s'→RelV v u→Q u s'):wpAny (model X.prog X.w) A (getAttr (.ref a) f b) Q E s:=by
  obtain ⟨mA,O,r,_,_,_⟩:=ins_get I.hok e
  obtain ⟨u,hu,ru⟩:=RelO.some_of (v:=v) (o:=mA f) (by rw [← l];exact r f)
  exact get_map I.kIn O (c.get f) c.hd n hu (handed_of ru) (h u _ (I.tok _) ru)
theorem getmeth_ok {m:Str} {g:Addr} {pl:Sem Bool} {Q:Value × List Value→Shared→Prop} (I:Inv X pins σ H s) (e:H a=some (.ins C dx fs)) (c:Cls X.K C) (k:Meth X.K C m g) (l:fs.lookup m=none)
    (h:Q (.ref g,[.ref a]) s):wpAny (model X.prog X.w) A (getMethod (.ref a) m pl) Q E s:=by
  obtain ⟨mA,O,r,_,_,_⟩:=ins_get I.hok e
  have hn:mA m=none:=RelO.none_of (by rw [← l];exact r m)
  exact get_meth I.kIn O (c.get m) k.at_ k.fn hn h
theorem setattr_ok {y:V} {u:Value} {Q:Unit→Shared→Prop} (I:Inv X pins σ H s) (e:H a=some (.ins C dx fs)) (c:Cls X.K C) (n:NoAttr X.K C f) (hl:fs.length < 1000) (ry:RelV y u)
    (h:∀ s',Inv X pins σ (upd H a (.ins C dx (putF f y fs))) s'→Q () s'):wpAny (model X.prog X.w) A (setAttr (.ref a) f u) Q E s:=by
  obtain ⟨mA,O,r,wi,_,ho⟩:=ins_get I.hok e
  have hz:(fs.map (·.1)).length≤sizeLine:=by rw [List.length_map,sizeLine_eq];omega
  refine set_map I.kIn O c.sa c.po n.taker c.hd wi hz fun h' O' sb=>h _ ?_
  have hd:∃ o,h'.get? dx=some o:=let ⟨o,_,_,e',_⟩:=O'.ns;⟨o,e'⟩
  refine I.write (x:=a) (e:=dx) (by rw [e];exact True.intro) (.inr ho) (fun b q hb z=>(sb.2 b hb).trans z) hd ?_
  refine ⟨by rw [upd_ne O.ne];exact ho,?_,O.ne,O'.obj,_,O'.ns,fun g=>?_,fun g hg=>?_⟩
  · have:=length_putF f y fs;omega
  · show RelO ((putF f y fs).lookup g) (if g=f then some u else mA g)
    rw [lookup_putF]
    by_cases q:g=f
    · rw [if_pos q,if_pos q];exact ry
    · rw [if_neg q,if_neg q];exact r g
  · by_cases q:g=f
    · rw [q];exact (keys_putF f y fs).1
    · refine (keys_putF f y fs).2 g (wi g fun z=>hg ?_)
      show (if g=f then some u else mA g)=none
      rw [if_neg q];exact z
theorem Inv.made (I:Inv X pins σ H s):Inv X pins σ (upd (upd H s.heap.objs.size (.own (s.heap.objs.size + 1))) (s.heap.objs.size + 1) (.ins C s.heap.objs.size []))
    { s with heap:=(s.heap.push PySem.W.emptyDict).push (PySem.W.instObj C s.heap.objs.size) }:=by
  have e1:(s.heap.push PySem.W.emptyDict).get? s.heap.objs.size=some PySem.W.emptyDict:=Heap.get?_push_size s.heap rfl
  have e2:((s.heap.push PySem.W.emptyDict).push (PySem.W.instObj C s.heap.objs.size)).get? (s.heap.objs.size + 1)=some (PySem.W.instObj C s.heap.objs.size):=by
    have:=Heap.get?_push_size (s.heap.push PySem.W.emptyDict) (o:=PySem.W.instObj C s.heap.objs.size) rfl
    rwa [Heap.size_push] at this
  have e3:(s.heap.push PySem.W.emptyDict).Ns s.heap.objs.size (fun _=>none):=⟨PySem.W.emptyDict,#[],_,e1,rfl,(fun e he=>absurd he (by simp)),fun _=>rfl⟩
  have I1:=I.laid (a:=s.heap.objs.size) (o:=.own (s.heap.objs.size + 1)) (h':=s.heap.push PySem.W.emptyDict) (t':=s.toks) (fun b u q=>Heap.get?_push_of_some _ q) (Nat.le_refl _) ⟨_,e1⟩
  refine I1.laid (a:=s.heap.objs.size + 1) (o:=.ins C s.heap.objs.size []) (t':=s.toks) (fun b u q=>Heap.get?_push_of_some _ q) (Nat.le_of_eq (Heap.size_push _ _)) ?_
  have ne:s.heap.objs.size≠s.heap.objs.size + 1:=Nat.ne_of_lt (Nat.lt_succ_self _)
  refine ⟨by rw [upd_ne ne,upd_same],Nat.zero_le _,ne,e2,fun _=>none,(Heap.Ns1.of_empty e3).at fun o q=>Heap.get?_push_of_some _ q,fun _=>True.intro,fun y hy=>absurd rfl hy⟩
theorem attr_of {prog:Program} {w:World} {env:Env} {e:Expr} {f:Str} {pos:Pos} {s:Shared} {Q:Value→Shared→Prop} (hb:attributeBase e f env (eval e env)=eval e env)
    (h:wpAny (model prog w) A (eval e env) (fun o s₁=>wpAny (model prog w) A (getAttr o f true) Q E s₁) E s):wpAny (model prog w) A (eval (.Attribute e f pos) env) Q E s :=
  Attribute_any_ h (by rw [arm_eval_Attribute,hb])
end
inductive FldR (K:PySem.W.Frag) (f:Str) (x:V) (H:Hp) (Q:VK):Prop
  | mk (a C dx:Addr) (fs:List (Str × V)) (v:V) (e:x=.ref a) (h:H a=some (.ins C dx fs)) (c:Cls K C) (n:NoAttr K C f) (l:fs.lookup f=some v) (q:Q v H):FldR K f x H Q
def tFld (K:PySem.W.Frag) (ta:TE) (f:Str):TE:=fun σ H Q=>ta σ H fun x H1=>FldR K f x H1 Q
inductive SFR (K:PySem.W.Frag) (f:Str) (y x:V) (H:Hp) (R:Hp→Prop):Prop
  | mk (a C dx:Addr) (fs:List (Str × V)) (e:x=.ref a) (h:H a=some (.ins C dx fs)) (c:Cls K C) (n:NoAttr K C f) (l:fs.length < 1000) (q:R (upd H a (.ins C dx (putF f y fs)))):SFR K f y x H R
def sFld (K:PySem.W.Frag) (ta tv:TE) (f:Str):TS:=fun D σ H=>tv σ H fun y H1=>ta σ H1 fun x H2=>SFR K f y x H2 fun H3=>D.nx σ H3
def InOp (X:Cx) (op:Operator) (rd:V→V→Hp→VK→Prop):Prop :=
  ∀ (pins:List (Addr × Obj)) (s:Shared) (σ:St) (H:Hp) (x y:V) (u v:Value) (Q:VK),Inv X pins σ H s→RelV x u→RelV y v→rd x y H Q→wpAny (model X.prog X.w) X.A (inplaceOp op u v) (EP X pins σ Q) X.xe s
inductive AugR (K:PySem.W.Frag) (f:Str) (x:V) (H:Hp) (R:Addr→Addr→V→Prop):Prop
  | mk (a C dx:Addr) (fs:List (Str × V)) (v:V) (e:x=.ref a) (h:H a=some (.ins C dx fs)) (c:Cls K C) (n:NoAttr K C f) (l:fs.lookup f=some v) (q:R a C v):AugR K f x H R
def sFldAug (K:PySem.W.Frag) (ta tv:TE) (rd:V→V→Hp→VK→Prop) (f:Str):TS:=fun D σ H=>ta σ H fun x H1=>AugR K f x H1 fun a C v =>
  tv σ H1 fun y H2=>rd v y H2 fun z H3=>∃ dx' fs',H3 a=some (.ins C dx' fs')∧fs'.length < 1000∧D.nx σ (upd H3 a (.ins C dx' (putF f z fs')))
section
variable {X:Cx} {o e value:Expr} {f:Str} {pos pos' tpos:Pos} {ta tv:TE}
theorem pe_fld (he:PE X e ta) (hb:attributeBase e f X.env (eval e X.env)=eval e X.env):PE X (.Attribute e f pos) (tFld X.K ta f):=by
  intro pins s σ H Q I h
  refine attr_of hb (thn (he pins s σ H _ I h) fun u s1 ⟨x,H1,I1,rx,a,C,dx,fs,v,ex,ea,c,n,l,q⟩=>?_)
  subst ex
  obtain rfl:u=Value.ref a:=rx
  exact getattr_ok I1 ea c n l fun u' s2 I2 ru=>⟨v,H1,I2,ru,q⟩
theorem ps_fld (ha:PE X o ta) (hv:PE X value tv) (hs:swapsWith value (some (.Attribute o f pos')) pos.line X.env=pure false):PS X (.Assign [.Attribute o f pos'] value pos) (sFld X.K ta tv f):=by
  intro pins s σ H D I h
  refine plainObj_wpAny_Assign_Attribute (thn (hv pins s σ H _ I h) fun u s1 ⟨y,H1,I1,ry,q⟩=>thn (ha pins s1 σ H1 _ I1 q) fun ov s2 ⟨x,H2,I2,rx,a,C,dx,fs,ex,ea,c,n,l,q2⟩=>?_) hs
  subst ex
  obtain rfl:ov=Value.ref a:=rx
  exact setattr_ok I2 ea c n l ry fun s3 I3=>⟨σ,_,I3,q2⟩
theorem ps_fldaug {op:Operator} {rd:V→V→Hp→VK→Prop} (ha:PE X o ta) (hv:PE X value tv) (hop:InOp X op rd):PS X (.AugAssign (.Attribute o f tpos) op value pos) (sFldAug X.K ta tv rd f):=by
  intro pins s σ H D I h
  refine wpAny_AugAssign_AttributeAny (thn (ha pins s σ H _ I h) fun ov s1 ⟨x,H1,I1,rx,a,C,dx,fs,v,ex,ea,c,n,l,q⟩=>?_)
  subst ex
  obtain rfl:ov=Value.ref a:=rx
  refine getattr_ok I1 ea c n l fun u s2 I2 ru=>thn (hv pins s2 σ H1 _ I2 q) fun w3 s3 ⟨y,H2,I3,ry,q3⟩=>thn (hop pins s3 σ H2 v y u w3 _ I3 ru ry q3) fun w4 s4 ⟨z,H3,I4,rz,dx',fs',ea',l',q4⟩=>?_
  exact setattr_ok I4 ea' c n l' rz fun s5 I5=>⟨σ,_,I5,q4⟩
def rAdd:V→V→Hp→VK→Prop:=fun x y H Q=>I0R (fun i j=>.int (i + j)) x y H Q
theorem in_add:InOp X .Add rAdd:=by
  rintro pins s σ H x y u v Q I rx ry ⟨i,j,rfl,rfl,q⟩
  obtain ⟨t,rfl⟩:=(show ∃ t,u=Value.int i t from rx)
  obtain ⟨t',rfl⟩:=(show ∃ t',v=Value.int j t' from ry)
  exact PyProof.Rows.iadd_int ⟨.int (i + j),H,I.tok _,⟨_,rfl⟩,q⟩
end
section
variable {X:Cx} {pins:List (Addr × Obj)} {σ:St} {H:Hp} {s:Shared} {A:Around} {E:Value→Shared→Prop} {Q:Value→Shared→Prop} {c:Value} {b:Bool}
end
end L2
namespace L2
open PySem PySem.Spec PyProof.Rows
structure Room (k:Nat) (A:Around):Prop where
  hd:A.handled=none
  dp:A.depth + 3 * k + 5 < recursionLimit
  un:A.units + 16 * k + 200 < cLine
theorem Room.mono {j k:Nat} {A:Around} (r:Room k A) (h:j≤k):Room j A:=⟨r.hd,by have:=r.dp;omega,by have:=r.un;omega⟩
theorem Room.deeper {k:Nat} {A:Around} (r:Room (k + 1) A) (env:Env):Room k (A.deeper env) :=
  ⟨r.hd,by have:=r.dp;show A.depth + 1 + 3 * k + 5 < _;omega,by have:=r.un;show A.units + 3 + 16 * k + 200 < _;omega⟩
theorem Room.in1 {k:Nat} {A:Around} (r:Room (k + 1) A):Room k A.in1 :=
  ⟨r.hd,by have:=r.dp;show A.depth + 3 * k + 5 < _;omega,by have:=r.un;show A.units + 1 + 16 * k + 200 < _;omega⟩
theorem make_depth {A:Around} {C:Addr} {us:List Value} {kw:List (Str × Value)}:(A.under (.builtin "type.__call__" ⟨.ref C::us,kw⟩)).depth=A.depth + 1:=by
  first | rfl | simp [Around.under,Code.weight,Code.isCreation,Code.isGuard,Code.isCaller,Code.frames,Code.isFrame,guardIds]
theorem make_units {A:Around} {C:Addr} {us:List Value} {kw:List (Str × Value)}:(A.under (.builtin "type.__call__" ⟨.ref C::us,kw⟩)).units=A.units + 1:=by
  first | rfl | simp [Around.under,Code.cUnits,Code.frames,Code.isFrame]
theorem Room.make {k:Nat} {A:Around} (r:Room (k + 1) A) (C:Addr) (us:List Value) (kw:List (Str × Value)):Room k (A.under (.builtin "type.__call__" ⟨.ref C::us,kw⟩)) :=
  ⟨r.hd,by have:=r.dp;rw [make_depth];omega,by have:=r.un;rw [make_units];omega⟩
theorem Room.depth {k:Nat} {A:Around} (r:Room k A):A.depth < recursionLimit:=by have:=r.dp;omega
theorem Room.units {k:Nat} {A:Around} (r:Room k A):A.units + 64 < cLine:=by have:=r.un;omega
theorem Room.units0 {k:Nat} {A:Around} (r:Room k A):A.units < cLine:=by have:=r.un;omega
def tNil:TA:=fun _ H Q=>Q [] H
def tCons (ta:TE) (tr:TA):TA:=fun σ H Q=>ta σ H fun x H1=>tr σ H1 fun xs H2=>Q (x::xs) H2
section
variable {X:Cx} {e:Expr} {es:List Expr} {te:TE} {t:TA} {pos:Pos}
theorem pa_nil:PA X [] tNil:=fun _ _ _ _ H Q I h=>Calls.spliced_nil ⟨[],H,I,.nil,h⟩
theorem pa_cons (ha:PE X e te) (hr:PA X es t) (hs:starEach (e::es) X.env=(false,eval e X.env)::starEach es X.env:=by rfl):PA X (e::es) (tCons te t):=by
  intro pos pins s σ H Q I h
  rw [hs]
  show wpAny _ _ (spliced ((false,eval e X.env)::backTo pos (starEach es X.env))) _ _ s
  refine Calls.spliced_cons (thn (ha pins s σ H _ I h) fun u s1 ⟨x,H1,I1,r1,q1⟩=>?_)
  exact thn (hr pos pins s1 σ H1 _ I1 q1) fun us s2 ⟨xs,H2,I2,r2,q2⟩=>⟨x::xs,H2,I2,.cons r1 r2,q2⟩
def tTup (t:TA):TE:=fun σ H Q=>t σ H fun xs H1=>xs.length≤sizeLine∧∀ p,H1 p=none→Q (.ref p) (upd H1 p (.tup xs))
def tLst (t:TA):TE:=fun σ H Q=>t σ H fun xs H1=>xs.length≤sizeLine∧∀ p,H1 p=none→Q (.ref p) (upd H1 p (.lst xs))
theorem pe_tup {x1} (h:PA X es t):PE X (.Tuple es x1 pos) (tTup t):=by
  intro pins s σ H Q I hq
  refine wpAny_Tuple_spliced (thn (h pos pins s σ H _ I hq) fun us s1 ⟨xs,H1,I1,r,z,q⟩=>⟨by rw [← r.length];exact z,?_⟩)
  have hf:H1 s1.heap.objs.size=none:=I1.hok.fresh (Nat.le_refl _)
  refine ⟨.ref s1.heap.objs.size,upd H1 s1.heap.objs.size (.tup xs),I1.laid (t':=s1.toks) (fun b u e=>Heap.get?_push_of_some _ e) (Nat.le_refl _) ?_,rfl,q _ hf⟩
  exact ⟨z,us,r,⟨_,Heap.get?_push_size _ rfl,rfl,_,rfl⟩⟩
theorem pe_lst (h:PA X es t):PE X (.List es pos) (tLst t):=by
  intro pins s σ H Q I hq
  refine wpAny_List_spliced (thn (h pos pins s σ H _ I hq) fun us s1 ⟨xs,H1,I1,r,z,q⟩=>⟨by rw [← r.length];exact z,?_⟩)
  have hf:H1 s1.heap.objs.size=none:=I1.hok.fresh (Nat.le_refl _)
  refine ⟨.ref s1.heap.objs.size,upd H1 s1.heap.objs.size (.lst xs),I1.laid (t':=s1.toks) (fun b u e=>Heap.get?_push_of_some _ e) (Nat.le_refl _) ?_,rfl,q _ hf⟩
  exact ⟨z,us,0,r,Heap.get?_push_size _ rfl⟩
end
abbrev Sp:=List V→Hp→VK→XK→Prop
abbrev CXT:=List Env→Hp→Shared→XK→Value→Shared→Prop
structure Env0 (P:Program) (w:World) (K:PySem.W.Frag) (mg:Str→Option Value) (base:Heap) (A:Around) (outer:List Env) (s:Shared) (H:Hp):Prop where
  frames:A.frames=some outer
  mod:Mod K mg base
  bs:∀ b o,base.get? b=some o→s.heap.get? b=some o∧H b=none
  bsz:base.objs.size≤s.heap.objs.size
  funs:s.heap.FunFrames base outer
  frf:∀ b∈frs outer,H b=none
  hok:HOk P w H s.heap
  bare:AllBare s.gens
def CE (outer:List Env) (P:Program) (w:World) (H:Hp) (s:Shared) (Q:VK) (u:Value) (s':Shared):Prop :=
  ∃ v H',s'.os=s.os∧AllBare s'.gens∧Un (frs outer) [] H H' s.heap s'.heap∧HOk P w H' s'.heap∧RelV v u∧Q v H'
def CR (CX:CXT) (outer:List Env) (P:Program) (w:World) (H:Hp) (s:Shared) (Q:VK) (E:XK) (r:Result) (s':Shared):Prop :=
  match r with
  | .ok (.ret u)=>CE outer P w H s Q u s'
  | .ok _=>False
  | .error e=>CX outer H s E e s'
structure FnOk (P:Program) (w:World) (K:PySem.W.Frag) (mg:Str→Option Value) (base:Heap) (CX:CXT) (k:Nat) (f:Addr) (fd:FuncData) (ps:List Str) (sp:Sp):Prop where
  len:∀ vs H Q E,sp vs H Q E→vs.length=ps.length
  run:∀ (A:Around) (outer:List Env) (s:Shared) (H:Hp) (args:Args) (us:List Value) (vs:List V) (Q:VK) (E:XK),Room k A→Env0 P w K mg base A outer s H→BindsTo s fd args (ps.zip us)→Vals vs us→sp vs H Q E →
    codeAny (model P w) A (.call (.ref f) args) (CR CX outer P w H s Q E) s
theorem Env0.make {P:Program} {w:World} {K:PySem.W.Frag} {mg:Str→Option Value} {base:Heap} {A:Around} {outer:List Env} {s:Shared} {H:Hp} (e:Env0 P w K mg base A outer s H) (C:Addr) (us:List Value) (kw:List (Str × Value)) :
    Env0 P w K mg base (A.under (.builtin "type.__call__" ⟨.ref C::us,kw⟩)) outer s H:=⟨by first | exact e.frames | (simpa [Around.under,Code.envs,Code.isFrame,pushEnvs] using e.frames),e.mod,e.bs,e.bsz,e.funs,e.frf,e.hok,e.bare⟩
theorem Env0.in1 {P:Program} {w:World} {K:PySem.W.Frag} {mg:Str→Option Value} {base:Heap} {A:Around} {outer:List Env} {s:Shared} {H:Hp} (e:Env0 P w K mg base A outer s H) :
    Env0 P w K mg base A.in1 outer s H:=⟨e.frames,e.mod,e.bs,e.bsz,e.funs,e.frf,e.hok,e.bare⟩
section
variable {X:Cx} {pins:List (Addr × Obj)} {σ:St} {H:Hp} {s s':Shared}
theorem Inv.env0 (I:Inv X pins σ H s):Env0 X.prog X.w X.K X.mg X.base X.A X.stack s H :=
  ⟨I.ok.frames,I.ok.mod,I.bs,Nat.le_trans I.ok.bsz I.sz,I.stack,I.stkFree,I.hok,I.bare⟩
theorem Inv.after {Q:VK} {u:Value} (I:Inv X pins σ H s) (h:CE X.stack X.prog X.w H s Q u s'):EP X pins σ Q u s':=by
  obtain ⟨v,H',os,bare,un,hok,r,q⟩:=h
  obtain ⟨hh,g,d,t,os'⟩:=s'
  obtain rfl:os'=s.os:=os
  exact ⟨v,H',I.call (h':=hh) (g':=g) (d':=d) (t':=t) (ch:=[]) un hok bare (fun b z=>absurd z (by simp)),r,q⟩
end
def tCall (sp:Sp) (dvs:List V) (E:XK) (t:TA):TE:=fun σ H Q=>t σ H fun vs H1=>sp (vs++dvs) H1 Q E
def tMeth (C:Addr) (m:Str) (sp:Sp) (dvs:List V) (E:XK) (ta:TE) (t:TA):TE:=fun σ H Q=>ta σ H fun x H1=>∃ a dx fs,x=.ref a∧H1 a=some (.ins C dx fs)∧fs.lookup m=none ∧
  t σ H1 fun vs H2=>sp (x::(vs++dvs)) H2 Q E
def tMake (C:Addr) (sp:Sp) (dvs:List V) (E:XK) (t:TA):TE:=fun σ H Q=>t σ H fun vs H1=>∀ x dx,H1 x=none→H1 dx=none→dx≠x →
  sp (.ref x::(vs++dvs)) (upd (upd H1 dx (.own x)) x (.ins C dx [])) (fun v H2=>v=.non∧Q (.ref x) H2) E
def Binds (K:PySem.W.Frag) (fd:FuncData) (ps:List Str) (ds:List Value):Prop :=
  ∀ (s:Shared) (us:List Value),K.In s.heap→(us++ds).length=ps.length→BindsTo s fd ⟨us,[]⟩ (ps.zip (us++ds))
theorem Binds.all {K:PySem.W.Frag} {fd:FuncData} {ps:List Str} (h:∀ us:List Value,us.length=ps.length→bindArgs fd ⟨us,[]⟩=pure (ps.zip us)):Binds K fd ps []:=fun s us _ hl=>by
  rw [List.append_nil] at hl ⊢
  exact .of_eq (h us hl)
def Passes (CX:CXT) (X:Cx) (E:XK):Prop:=∀ (pins:List (Addr × Obj)) (σ:St) (H:Hp) (s:Shared) (e:Value) (s':Shared),Inv X pins σ H s→CX X.stack H s E e s'→X.xe e s'
section
variable {X:Cx} {CX:CXT} {k:Nat} {f C:Addr} {fd:FuncData} {ps:List Str} {sp:Sp} {dvs:List V} {ds:List Value} {E:XK} {x m:Str} {p pos apos:Pos} {e o:Expr} {es:List Expr} {ta:TE} {t:TA}
theorem run_fn {pins:List (Addr × Obj)} {σ:St} {H:Hp} {s:Shared} {Q:VK} {us:List Value} {vs:List V} (F:FnOk X.prog X.w X.K X.mg X.base CX k f fd ps sp) (hr:Room k X.A) (hb:Binds X.K fd ps ds) (hd:Vals dvs ds) (hx:Passes CX X E)
    (I:Inv X pins σ H s) (r:Vals vs us) (h:sp (vs++dvs) H Q E):wpAny (model X.prog X.w) X.A (call (.ref f) us) (EP X pins σ Q) X.xe s:=by
  have r2:Vals (vs++dvs) (us++ds):=r.append hd
  have hl:(us++ds).length=ps.length:=by rw [← r2.length];exact F.len _ _ _ _ h
  refine wpAny_call (codeAny_mono (F.run X.A X.stack s H ⟨us,[]⟩ (us++ds) (vs++dvs) Q E hr I.env0 (hb s us I.kIn hl) r2 h) fun r s' hq=>?_)
  cases r with
  | error e=>exact hx pins σ H s e s' I hq
  | ok fl =>
    cases fl with
    | ret u=>exact I.after hq
    | next=>exact False.elim hq
    | brk=>exact False.elim hq
    | cont=>exact False.elim hq
theorem pe_call (F:FnOk X.prog X.w X.K X.mg X.base CX k f fd ps sp) (hr:Room k X.A) (hg:Gl X x) (hm:X.mg x=some (.ref f)) (hk:PySem.W.keepIn X.K (.ref f)=true) (hb:Binds X.K fd ps ds) (hd:Vals dvs ds) (hx:Passes CX X E)
    (ha:PA X (e::es) t) (hdb:(x == ("__debug__":Str))=false:=by decide) (he:starEach (e::es) X.env=(false,eval e X.env)::starEach es X.env:=by rfl) (hpl:(backTo pos (starEach es X.env)).any (·.1)=false:=by rfl) :
    PE X (.Call (.Name x p) (e::es) [] pos) (tCall sp dvs E t):=by
  intro pins s σ H Q I h
  refine wpAny_Call_Name_kw (ld_glob I hg hm ?_ hdb)
  refine PySem.W.callWith_K (h₀:=X.base) I.ok.mod.kin hk (thn (ha pos pins s σ H _ I h) fun us s1 ⟨vs,H1,I1,r,q⟩=>⟨I1.kIn,?_⟩) he hpl
  exact run_fn F hr hb hd hx I1 r q
theorem pe_meth {pl:Sem Bool} (he:PE X o ta) (c:Cls X.K C) (hm:Meth X.K C m f) (F:FnOk X.prog X.w X.K X.mg X.base CX k f fd ps sp) (hr:Room k X.A) (hb:Binds X.K fd ps ds) (hd:Vals dvs ds) (hx:Passes CX X E) (ha:PA X (e::es) t)
    (hst:starEach (e::es) X.env=(false,eval e X.env)::starEach es X.env:=by rfl) (hpl:(backTo pos (starEach es X.env)).any (·.1)=false:=by rfl)
    (ht:eval (.Call (.Attribute o m apos) (e::es) [] pos) X.env=(do
      let ov ← eval o X.env
      standAt apos.atName
      let (f,first) ← holding [ov] (getMethod ov m pl)
      callWith pos f first (backTo pos (starEach (e::es) X.env)) (backToKw pos (keywordEach [] X.env))):=by rfl) :
    PE X (.Call (.Attribute o m apos) (e::es) [] pos) (tMeth C m sp dvs E ta t):=by
  intro pins s σ H Q I h
  refine PySem.W.methodCall_KW (pl:=pl) (thn (he pins s σ H _ I h) fun u s1 ⟨x,H1,I1,rx,a,dx,fs,ex,ea,l,q⟩=>?_) ht
  subst ex
  obtain rfl:u=Value.ref a:=rx
  refine getmeth_ok I1 ea c hm l ?_
  refine PySem.W.callWith_K (first:=[.ref a]) (h₀:=X.base) I.ok.mod.kin hm.kp (thn (ha pos pins s1 σ H1 _ I1 q) fun us s2 ⟨vs,H2,I2,r,q2⟩=>⟨I2.kIn,?_⟩) hst hpl
  exact run_fn (us:=.ref a::us) (vs:=.ref a::vs) F hr hb hd hx I2 (.cons rfl r) q2
theorem pe_meth0 {pl:Sem Bool} (he:PE X o ta) (c:Cls X.K C) (hm:Meth X.K C m f) (F:FnOk X.prog X.w X.K X.mg X.base CX k f fd ps sp) (hr:Room k X.A) (hb:Binds X.K fd ps ds) (hd:Vals dvs ds) (hx:Passes CX X E)
    (ht:eval (.Call (.Attribute o m apos) [] [] pos) X.env=(do
      let ov ← eval o X.env
      standAt apos.atName
      let (f,first) ← holding [ov] (getMethod ov m pl)
      callWith pos f first (backTo pos (starEach [] X.env)) (backToKw pos (keywordEach [] X.env))):=by rfl) :
    PE X (.Call (.Attribute o m apos) [] [] pos) (tMeth C m sp dvs E ta tNil):=by
  intro pins s σ H Q I h
  refine PySem.W.methodCall_KW (pl:=pl) (thn (he pins s σ H _ I h) fun u s1 ⟨x,H1,I1,rx,a,dx,fs,ex,ea,l,q⟩=>?_) ht
  subst ex
  obtain rfl:u=Value.ref a:=rx
  refine getmeth_ok I1 ea c hm l ?_
  exact PySem.W.callWith_K0 (first:=[.ref a]) I1.kIn hm.kp (run_fn (us:=[.ref a]) (vs:=[.ref a]) F hr hb hd hx I1 (.cons rfl .nil) q)
structure Mk (K:PySem.W.Frag) (C f:Addr):Prop where
  makes:PySem.W.makesIn K C=true
  init:PySem.W.findIn K (.ref C) "__init__"=some (some (.ref f))
  fn:PySem.W.isFn K (.ref f)=true
  kp:PySem.W.keepIn K (.ref C)=true
theorem run_make {pins:List (Addr × Obj)} {σ:St} {H:Hp} {s:Shared} {Q:VK} {us:List Value} {vs:List V} (M:Mk X.K C f) (F:FnOk X.prog X.w X.K X.mg X.base CX k f fd ps sp) (hr:Room (k + 1) X.A) (hb:Binds X.K fd ps ds) (hd:Vals dvs ds)
    (hx:Passes CX X E) (I:Inv X pins σ H s) (r:Vals vs us)
    (h:∀ x dx,H x=none→H dx=none→dx≠x→sp (.ref x::(vs++dvs)) (upd (upd H dx (.own x)) x (.ins C dx [])) (fun v H2=>v=.non∧Q (.ref x) H2) E) :
    wpAny (model X.prog X.w) X.A (call (.ref C) us) (EP X pins σ Q) X.xe s:=by
  have hq:=h (s.heap.objs.size + 1) s.heap.objs.size (I.hok.fresh (Nat.le_succ _)) (I.hok.fresh (Nat.le_refl _)) (Nat.ne_of_lt (Nat.lt_succ_self _))
  have I2:=Inv.made (C:=C) I
  have r2:Vals (V.ref (s.heap.objs.size + 1)::(vs++dvs)) (Value.ref (s.heap.objs.size + 1)::(us++ds)):=.cons rfl (r.append hd)
  have hl:(Value.ref (s.heap.objs.size + 1)::us++ds).length=ps.length:=by
    have e:=r2.length
    rw [F.len _ _ _ _ hq] at e
    exact e.symm
  refine wpAny_call (make_map (f:=f) I.kIn M.makes M.init (beq_iff_eq.mp M.fn) (codeAny_mono (F.run _ X.stack _ _ ⟨Value.ref (s.heap.objs.size + 1)::us,[]⟩ (Value.ref (s.heap.objs.size + 1)::(us++ds)) _ _ E (hr.make C us [])
    (I2.env0.make C us []) (hb _ (Value.ref (s.heap.objs.size + 1)::us) I2.kIn hl) r2 hq) fun r s' hq'=>?_))
  cases r with
  | error e=>exact hx pins σ _ _ e s' I2 hq'
  | ok fl =>
    cases fl with
    | ret u =>
      obtain ⟨v,H',I3,rv,ev,q3⟩:=I2.after hq'
      subst ev
      exact ⟨rv,⟨V.ref (s.heap.objs.size + 1),H',I3,rfl,q3⟩⟩
    | next=>exact False.elim hq'
    | brk=>exact False.elim hq'
    | cont=>exact False.elim hq'
theorem pe_make (M:Mk X.K C f) (F:FnOk X.prog X.w X.K X.mg X.base CX k f fd ps sp) (hr:Room (k + 1) X.A) (hg:Gl X x) (hm:X.mg x=some (.ref C)) (hb:Binds X.K fd ps ds) (hd:Vals dvs ds) (hx:Passes CX X E)
    (ha:PA X (e::es) t) (hdb:(x == ("__debug__":Str))=false:=by decide) (he:starEach (e::es) X.env=(false,eval e X.env)::starEach es X.env:=by rfl) (hpl:(backTo pos (starEach es X.env)).any (·.1)=false:=by rfl) :
    PE X (.Call (.Name x p) (e::es) [] pos) (tMake C sp dvs E t):=by
  intro pins s σ H Q I h
  refine wpAny_Call_Name_kw (ld_glob I hg hm ?_ hdb)
  refine PySem.W.callWith_K (h₀:=X.base) I.ok.mod.kin M.kp (thn (ha pos pins s σ H _ I h) fun us s1 ⟨vs,H1,I1,r,q⟩=>⟨I1.kIn,?_⟩) he hpl
  exact run_make M F hr hb hd hx I1 r q
theorem pe_make0 (M:Mk X.K C f) (F:FnOk X.prog X.w X.K X.mg X.base CX k f fd ps sp) (hr:Room (k + 1) X.A) (hg:Gl X x) (hm:X.mg x=some (.ref C)) (hb:Binds X.K fd ps ds) (hd:Vals dvs ds) (hx:Passes CX X E)
    (hdb:(x == ("__debug__":Str))=false:=by decide):PE X (.Call (.Name x p) [] [] pos) (tMake C sp dvs E tNil):=by
  intro pins s σ H Q I h
  refine wpAny_Call_Name_kw (ld_glob I hg hm ?_ hdb)
  exact PySem.W.callWith_K0 I.kIn M.kp (run_make (us:=[]) M F hr hb hd hx I .nil h)
end
def PK (X:Cx) (kws:List Keyword) (t:TA):Prop :=
  ∀ (pos:Pos) (pins:List (Addr × Obj)) (s:Shared) (σ:St) (H:Hp) (Q:List V→Hp→Prop),Inv X pins σ H s→t σ H Q→wpAny (model X.prog X.w) X.A (evalAll ((backToKw pos (keywordEach kws X.env)).map (·.2))) (AP X pins σ Q) X.xe s
section
variable {X:Cx} {CX:CXT} {k:Nat} {f C:Addr} {fd:FuncData} {ps ks:List Str} {sp:Sp} {E:XK} {x m:Str} {p pos apos kpos:Pos} {e o:Expr} {es:List Expr} {kws:List Keyword} {te ta:TE} {t tk:TA} {nm:Option Str}
theorem pk_nil:PK X [] tNil:=fun _ _ _ _ H Q I h=>wpAny_evalAll_nil ⟨[],H,I,.nil,h⟩
theorem pk_cons (ha:PE X e te) (hr:PK X kws t):PK X (⟨nm,e,kpos⟩::kws) (tCons te t):=by
  intro pos pins s σ H Q I h
  show wpAny _ _ (evalAll ((do let v ← eval e X.env;standAt pos;pure v)::(backToKw pos (keywordEach kws X.env)).map (·.2))) _ _ s
  refine wpAny_evalAll_cons (wpAny_bind (thn (ha pins s σ H _ I h) fun u s1 ⟨x,H1,I1,r1,q1⟩=>wpAny_bind (wpAny_standAt (wpAny_pure ?_))))
  exact thn (hr pos pins s1 σ H1 _ I1 q1) fun us s2 ⟨xs,H2,I2,r2,q2⟩=>⟨x::xs,H2,I2,.cons r1 r2,q2⟩
variable {g:List Value→List Value→List Value} {gV:List V→List V→List V}
end
structure FnScope (N P:List Str) (sc:Scope):Prop where
  kind:sc.kind=.function
  co:sc.isCoroutine=false
  gen:sc.isGenerator=false
  nd:N.Nodup
  pre:N.take P.length=P
  par:∀ x∈P,sc.names.lookup x=some .local∨sc.names.lookup x=some .cell
  nofree:∀ y∈sc.names,y.2≠.free
theorem bindL_out {kindOf:Str→Option NameKind} {x:Str}:∀ {binds:List (Str × Value)} {m:Str→Option Value},(∀ v,(x,v)∉binds)→bindL kindOf binds m x=m x
  | [],_,_=>rfl
  | (n,v)::r,m,h=>by
    unfold bindL
    rw [bindL_out fun w hw=>h w (List.mem_cons_of_mem _ hw)]
    split
    · have:x≠n:=by rintro rfl;exact h v List.mem_cons_self
      simp [this]
    · rfl
theorem bindC_out {kindOf:Str→Option NameKind} {x:Str}:∀ {binds:List (Str × Value)} {m:Str→Option Value},(∀ v,(x,v)∉binds)→bindC kindOf binds m x=m x
  | [],_,_=>rfl
  | (n,v)::r,m,h=>by
    unfold bindC
    rw [bindC_out fun w hw=>h w (List.mem_cons_of_mem _ hw)]
    split
    · rfl
    · have:x≠n:=by rintro rfl;exact h v List.mem_cons_self
      simp [this]
theorem bindL_get {kindOf:Str→Option NameKind} {x:Str} {v:Value}:∀ {P:List Str} {vs:List Value} {i:Nat} {m:Str→Option Value},P.Nodup→P[i]?=some x→vs[i]?=some v→kindOf x=some .local →
    bindL kindOf (P.zip vs) m x=some v
  | [],_,_,_,_,h,_,_=>by simp at h
  | _::_,[],_,_,_,_,h,_=>by simp at h
  | p::P,w::vs,0,m,nd,h1,h2,hk=>by
    simp at h1 h2;subst h1;subst h2
    show bindL kindOf ((p,w)::P.zip vs) m p=_
    unfold bindL
    rw [bindL_out fun v hv=>(List.nodup_cons.mp nd).1 (List.of_mem_zip hv).1,if_pos hk]
    simp
  | p::P,w::vs,i + 1,m,nd,h1,h2,hk=>by
    show bindL kindOf ((p,w)::P.zip vs) m x=_
    unfold bindL
    exact bindL_get (i:=i) (List.nodup_cons.mp nd).2 (by simpa using h1) (by simpa using h2) hk
theorem bindC_get {kindOf:Str→Option NameKind} {x:Str} {v:Value}:∀ {P:List Str} {vs:List Value} {i:Nat} {m:Str→Option Value},P.Nodup→P[i]?=some x→vs[i]?=some v→kindOf x≠some .local →
    bindC kindOf (P.zip vs) m x=some v
  | [],_,_,_,_,h,_,_=>by simp at h
  | _::_,[],_,_,_,_,h,_=>by simp at h
  | p::P,w::vs,0,m,nd,h1,h2,hk=>by
    simp at h1 h2;subst h1;subst h2
    show bindC kindOf ((p,w)::P.zip vs) m p=_
    unfold bindC
    rw [bindC_out fun v hv=>(List.nodup_cons.mp nd).1 (List.of_mem_zip hv).1,if_neg hk]
    simp
  | p::P,w::vs,i + 1,m,nd,h1,h2,hk=>by
    show bindC kindOf ((p,w)::P.zip vs) m x=_
    unfold bindC
    exact bindC_get (i:=i) (List.nodup_cons.mp nd).2 (by simpa using h1) (by simpa using h2) hk
def start (N:List Str) (vs:List V):St:=vs.map some++List.replicate (N.length - vs.length) none
def cxOf (CX:CXT) (P:Program) (w:World) (K:PySem.W.Frag) (mg:Str→Option Value) (base:Heap) (N:List Str) (qual:Str) (scope:Scope) (f:Addr) (cd:Value) (A:Around) (outer:List Env) (s:Shared) (H:Hp) (E:XK):Cx where
  prog:=P
  w:=w
  K:=K
  mg:=mg
  base:=base
  A:=A.deeper (envOfC qual scope s.heap.objs.size f cd)
  N:=N
  s_0:=s
  H_0:=H
  env:=envOfC qual scope s.heap.objs.size f cd
  outer:=outer
  stack:=envOfC qual scope s.heap.objs.size f cd::outer
  ex:=[]
  calm:=true
  fn:=fun _=>true
  pn:=[]
  xe:=fun e s'=>wpAny (model P w) (A.deeper (envOfC qual scope s.heap.objs.size f cd)) (leaving (envOfC qual scope s.heap.objs.size f cd) e) (fun _ s''=>CX outer H s E e s'') (fun e' s''=>CX outer H s E e' s'') s'
theorem cell_has {sc:Scope} {n:Nat} {x:Str} (h:sc.names.lookup x=some .cell):∃ c,(cellsFrom n sc.names []).lookup x=some c:=by
  have q:=PySem.W.cellsFrom_some sc.names n [] (.inl h)
  exact Option.isSome_iff_exists.mp q
theorem inv_start {CX:CXT} {P:Program} {w:World} {K:PySem.W.Frag} {mg:Str→Option Value} {base:Heap} {N ps:List Str} {qual:Str} {scope:Scope} {f:Addr} {cd:Value} {A:Around} {outer:List Env} {s s1:Shared} {H:Hp} {E:XK} {us:List Value} {vs:List V}
    (S:FnScope N ps scope) (hd:A.handled=none) (e0:Env0 P w K mg base A outer s H) (hl:vs.length=ps.length) (r:Vals vs us)
    (x:InCallC s s.heap.objs.size (bindL (envOfC qual scope s.heap.objs.size f cd).kindOf (ps.zip us) fun _=>none) (cellsFrom (s.heap.objs.size + 1) scope.names []) (bindC (envOfC qual scope s.heap.objs.size f cd).kindOf (ps.zip us) fun _=>none) s1) :
    Inv (cxOf CX P w K mg base N qual scope f cd A outer s H E) [] (start N vs) H s1:=by
  have hpl:ps.length≤N.length:=by have:=congrArg List.length S.pre;rw [List.length_take] at this;omega
  obtain ⟨h1,tk,rfl,hk⟩:=x.done
  have noA:∀ b:Addr,b∉(cxOf CX P w K mg base N qual scope f cd A outer s H E).ex:=fun b z=>absurd (show b∈([]:List Addr) from z) (by simp)
  refine ⟨⟨e0.mod,S.kind,rfl,rfl,Nat.le_refl _,fun y z c h1 h2=>?_,fun y hy=>?_,fun y c _ h=>?_,fun _=>hd,Around.frames_deeper e0.frames,.inr ⟨rfl,rfl⟩,fun b z=>absurd z (noA b),e0.bs,e0.bsz,fun b _ _=>noA b,fun b z=>absurd z (noA b),e0.funs,e0.frf⟩,
    rfl,e0.bare,Un.kept hk,⟨_,x.toInCall.ns,fun i y v h1 h2 h3=>?_⟩,fun y c h=>⟨_,x.cell y c h⟩,e0.hok.fresh (Nat.le_refl _),fun y c h=>?_,fun p hp=>absurd (show p∈([]:List (Addr × Obj)) from hp) (by simp),e0.hok.kept hk,?_⟩
  · exact name_of_addr x.apart (PySem.mem_of_lookup h1) (PySem.mem_of_lookup h2)
  · have hy:scope.names.lookup y=some .cell∨scope.names.lookup y=some .free:=hy
    rcases hy with hy | hy
    · exact cell_has hy
    · exact absurd rfl (S.nofree _ (PySem.mem_of_lookup hy))
  · exact Nat.le_of_lt (x.above y c (PySem.mem_of_lookup h))
  · have hi:i < vs.length:=by
      unfold start at h2
      by_cases hi:i < vs.length
      · exact hi
      · rw [List.getElem?_append_right (by simpa using hi)] at h2
        rw [List.getElem?_replicate] at h2
        split at h2 <;> cases h2
    have ha:vs[i]?=some v:=by
      unfold start at h2
      rw [List.getElem?_append_left (by simpa using hi),List.getElem?_map] at h2
      cases e:vs[i]? with
      | none=>rw [e] at h2;cases h2
      | some a=>rw [e] at h2;cases h2;rfl
    obtain ⟨u,hu,rv⟩:=r.get ha
    have hp:ps[i]?=some y:=by
      rw [← S.pre,List.getElem?_take_of_lt (by omega)];exact h1
    have ndP:ps.Nodup:=by rw [← S.pre];exact S.nd.sublist (List.take_sublist _ _)
    refine ⟨u,rv,?_⟩
    rcases S.par y (List.mem_of_getElem? hp) with k | k
    · exact .inl ⟨k,bindL_get ndP hp hu k⟩
    · obtain ⟨c,e⟩:=cell_has (n:=s.heap.objs.size + 1) k
      refine .inr ⟨.inl k,c,e,?_⟩
      have q:=x.cell y c e
      rw [bindC_get ndP hp hu (by show scope.names.lookup y≠_;rw [k];decide)] at q
      exact q
  · exact e0.hok.fresh (Nat.le_of_lt (x.above y c (PySem.mem_of_lookup h)))
  · unfold start
    show _=N.length
    rw [List.length_append,List.length_map,List.length_replicate]
    omega
theorem fn_of {CX:CXT} {P:Program} {w:World} {K:PySem.W.Frag} {mg:Str→Option Value} {base:Heap} {k:Nat} {f:Addr} {name qual:Str} {params:Arguments} {body:List Stmt} {scope:Scope} {dV kV doc pm cdv ct oc:Value} {an od:Option Addr}
    {osl:Array (Option Value)} {N ps:List Str} {sp:Sp} (lk:K.lookup f=some ⟨oc,od,.func (PySem.W.fnOf name qual params body scope dV kV doc pm an cdv ct),osl⟩) (hcd:PySem.W.codeIn K cdv qual=true) (S:FnScope N ps scope)
    (len:∀ vs H Q E,sp vs H Q E→vs.length=ps.length)
    (hbody:∀ (A:Around) (outer:List Env) (s:Shared) (H:Hp) (vs:List V) (Q:VK) (E:XK),Room k (A.deeper (envOfC qual scope s.heap.objs.size f cdv))→sp vs H Q E →
      ∃ t,PSs (cxOf CX P w K mg base N qual scope f cdv A outer s H E) body t∧t { nx:=fun _ H'=>Q .non H',rt:=Q } (start N vs) H) :
    FnOk P w K mg base CX (k + 1) f (PySem.W.fnOf name qual params body scope dV kV doc pm an cdv ct) ps sp:=by
  refine ⟨len,fun A outer s H args us vs Q E hr e0 hb r hsp=>?_⟩
  have hl:=len _ _ _ _ hsp
  have KX:K.In s.heap:=e0.mod.kin.keeps fun b o e=>(e0.bs b o e).1
  have lim:s.heap.NoLimit:=e0.mod.nolimit.keeps fun b o e=>(e0.bs b o e).1
  have hkind:∀ y∈ps.zip us,scope.names.lookup y.1=some .local∨(scope.names.lookup y.1=some .cell∧((cellsFrom (s.heap.objs.size + 1) scope.names []).lookup y.1).isSome=true):=fun ⟨n,v⟩ hy=>by
    rcases S.par n (List.of_mem_zip hy).1 with q | q
    · exact .inl q
    · exact .inr ⟨q,PySem.W.cellsFrom_some _ _ _ (.inl q)⟩
  refine codeAny_call_function hr.depth (KX _ _ lk) rfl S.co S.gen rfl (PySem.W.codeRec_of KX hcd) (hb _ _ _ _ ?_)
  refine wpAny_newFunctionEnv_cells S.kind hkind fun env he s1 x=>?_
  subst he
  refine ⟨lim.keeps x.toInCall.keep,codeAny_func ?_⟩
  obtain ⟨t,ht,hq⟩:=hbody A outer s H vs Q E (hr.deeper _) hsp
  have I:Inv (cxOf CX P w K mg base N qual scope f cdv A outer s H E) [] (start N vs) H s1:=inv_start S hr.hd e0 hl r x
  refine wpAny_mono (ht [] s1 (start N vs) H _ I hq) (fun fl s' hs=>?_) fun e s' hs=>hs
  have fin:∀ {σ':St} {H':Hp} {v:V} {u:Value},Inv (cxOf CX P w K mg base N qual scope f cdv A outer s H E) [] σ' H' s'→RelV v u→Q v H'→CE outer P w H s Q u s' :=
    fun {σ' H' v u} J rv q=>⟨v,H',J.os,J.bare,J.base,J.hok,rv,q⟩
  cases fl with
  | ret u =>
    obtain ⟨v,σ',H',J,rv,q⟩:=hs
    exact fin J rv q
  | next =>
    obtain ⟨σ',H',J,q⟩:=hs
    exact fin (v:=V.non) (u:=Value.none) J rfl q
  | brk =>
    obtain ⟨_,_,_,q⟩:=hs
    exact False.elim q
  | cont =>
    obtain ⟨_,_,_,q⟩:=hs
    exact False.elim q
end L2
namespace L2
open PySem PySem.Spec PyProof.Rows
section
variable {X:Cx} {x:Str} {p pos:Pos} {e:Expr} {es:List Expr} {t:TA} {id T:String} {r:List V→Hp→VK→Prop}
def tCB (r:List V→Hp→VK→Prop) (t:TA):TE:=fun σ H Q=>t σ H fun vs H1=>r vs H1 Q
theorem pe_callB (hc:CallR X (.builtin id) r) (hg:Gl X x) (hm:X.mg x=none) (hv:bootBuiltins x=some (.builtin id)) (ha:PA X (e::es) t) (hn:x≠"__name__":=by decide) (hdb:(x == ("__debug__":Str))=false:=by decide)
    (he:starEach (e::es) X.env=(false,eval e X.env)::starEach es X.env:=by rfl) (hpl:(backTo pos (starEach es X.env)).any (·.1)=false:=by rfl):PE X (.Call (.Name x p) (e::es) [] pos) (tCB r t):=by
  intro pins s σ H Q I h
  refine wpAny_Call_Name_kw (ld_blt I hg hm hv ?_ hn hdb)
  exact PyProof.Rows.callWith_builtin1 (thn (ha pos pins s σ H _ I h) fun us s1 ⟨vs,H1,I1,r1,q1⟩=>hc pins s1 σ H1 vs us Q I1 r1 q1) he hpl
theorem pe_callTy (hc:CallR X (.type T) r) (hg:Gl X x) (hm:X.mg x=none) (hv:bootBuiltins x=some (.type T)) (ha:PA X (e::es) t) (hn:x≠"__name__":=by decide) (hdb:(x == ("__debug__":Str))=false:=by decide)
    (he:starEach (e::es) X.env=(false,eval e X.env)::starEach es X.env:=by rfl) (hpl:(backTo pos (starEach es X.env)).any (·.1)=false:=by rfl):PE X (.Call (.Name x p) (e::es) [] pos) (tCB r t):=by
  intro pins s σ H Q I h
  refine wpAny_Call_Name_kw (ld_blt I hg hm hv ?_ hn hdb)
  exact PyProof.Rows.callWith_type1 (thn (ha pos pins s σ H _ I h) fun us s1 ⟨vs,H1,I1,r1,q1⟩=>hc pins s1 σ H1 vs us Q I1 r1 q1) he hpl
end
end L2
namespace HT
open PySem PyProof.Rows
section
open PySem.SeqAt
open PySem.AutoSeq1 (wpAny_loadPart')
open PySem.MeetsSeq PySem.MeetsSeq2 PySem.MeetsSeq3
end
section
variable {prog:Program} {w:World} {A:Around} {E:Value→Shared→Prop} {s:Shared}
def sIx (n d:Nat):Option Int→Nat
  | none=>d
  | some v=>if v < 0 then (v + (n:Int)).toNat else min v.toNat n
theorem sIx_nat (n d k:Nat):sIx n d (some (k:Int))=min k n:=by
  show (if (k:Int) < 0 then ((k:Int) + (n:Int)).toNat else min (k:Int).toNat n)=min k n
  rw [if_neg (by omega),Int.toNat_natCast]
end
end HT
namespace L2
open PySem PySem.Spec PyProof.Rows
abbrev TO:=St→Hp→(Option Int→Hp→Prop)→Prop
def PO (X:Cx) (e:Option Expr) (t:TO):Prop :=
  ∀ (pins:List (Addr × Obj)) (s:Shared) (σ:St) (H:Hp) (Q:Option Int→Hp→Prop),Inv X pins σ H s→t σ H Q →
    wpAny (model X.prog X.w) X.A (evalPart e X.env) (fun u s'=>∃ o H',Inv X pins σ H' s'∧IsPart u o∧Q o H') X.xe s
def tPart (t:TE):TO:=fun σ H Q=>t σ H fun x H1=>∃ i,x=.int i∧Q (some i) H1
section
variable {X:Cx} {e:Expr} {te:TE} {lo hi:Option Expr} {tl th:TO} {pos p2:Pos}
theorem po_some (h:PE X e te):PO X (some e) (tPart te):=by
  intro pins s σ H Q I hw
  rw [evalPart_some]
  refine thn (h pins s σ H _ I hw) fun u s1 ⟨x,H1,I1,r1,q1⟩=>?_
  obtain ⟨i,rfl,q⟩:=q1
  obtain ⟨t,rfl⟩:=r1
  exact ⟨some i,H1,I1,.int i t,q⟩
def SlR (X:Cx) (r:V→Option Int→Option Int→Hp→VK→Prop):Prop :=
  ∀ (pins:List (Addr × Obj)) (s:Shared) (σ:St) (H:Hp) (x:V) (v vl vu:Value) (lo hi:Option Int) (sl:Addr) (Q:VK),Inv X pins σ H s→RelV x v→s.heap.IsSliceOf sl vl vu .none→IsPart vl lo→IsPart vu hi→r x lo hi H Q →
    ∃ T id,typeLookup (.type T) "__getitem__"=pure (some (.builtin id))∧s.TypeIs v T∧wpAny (model X.prog X.w) X.A (getItem v (.ref sl)) (EP X pins σ Q) X.xe s
def tSl (r:V→Option Int→Option Int→Hp→VK→Prop) (te:TE) (tl th:TO):TE:=fun σ H Q=>te σ H fun x H1=>tl σ H1 fun l H2=>th σ H2 fun u H3=>r x l u H3 Q
theorem pe_slice {r:V→Option Int→Option Int→Hp→VK→Prop} (hr:SlR X r) (he:PE X e te) (hl:PO X lo tl) (hu:PO X hi th):PE X (.Subscript e (.Slice lo hi none p2) pos) (tSl r te tl th):=by
  intro pins s σ H Q I h
  refine Subscript_ (thn (he pins s σ H _ I h) fun v s1 ⟨x,H1,I1,r1,q1⟩=>?_)
  refine wpAny_Slice (thn (hl pins s1 σ H1 _ I1 q1) fun vl s2 ⟨l,H2,I2,pl,q2⟩=>thn (hu pins s2 σ H2 _ I2 q2) fun vu s3 ⟨u,H3,I3,pu,q3⟩=>?_)
  rw [evalPart_none]
  refine wpAny_pure ?_
  have I4:Inv X pins σ H3 { s3 with heap:=s3.heap.push { cls:=.type "slice",data:=.fields #[vl,vu,.none] } }:=I3.kept (t':=s3.toks) fun b ob q=>Heap.get?_push_of_some _ q
  obtain ⟨T,id,hT,ht,hg⟩:=hr pins { s3 with heap:=s3.heap.push { cls:=.type "slice",data:=.fields #[vl,vu,.none] } } σ H3 x v vl vu l u s3.heap.objs.size Q I4 r1 (Heap.IsSliceOf.new ..) pl pu q3
  show wpAny (model X.prog X.w) X.A (subscriptTail e (.Slice lo hi none p2) v (.ref s3.heap.objs.size)) (EP X pins σ Q) X.xe { s3 with heap:=s3.heap.push { cls:=.type "slice",data:=.fields #[vl,vu,.none] } }
  exact tail_any (ops:=[.ref s3.heap.objs.size,v]) ht hT hg (by with_unfolding_all rfl)
def cutV (xs:List V) (lo hi:Option Int):List V:=(xs.drop (HT.sIx xs.length 0 lo)).take (HT.sIx xs.length xs.length hi - HT.sIx xs.length 0 lo)
theorem cutV_length (xs:List V) (lo hi:Option Int):(cutV xs lo hi).length≤xs.length:=by
  unfold cutV
  rw [List.length_take,List.length_drop]
  omega
end
end L2
namespace L2
open PySem PySem.Spec PyProof.Rows
def ixN (n:Nat) (i:Int):Option Nat:=if 0≤i then (if i < n then some i.toNat else none) else if -(n:Int)≤i then some (i + n).toNat else none
def atI {α:Type} (xs:List α) (i:Int):Option α:=(ixN xs.length i).bind fun j=>xs[j]?
theorem ixN_seq {n:Nat} {i:Int} {j:Nat} (h:ixN n i=some j):seqIndex? i n=some j∧j < n∧-(n:Int)≤i∧i < n:=by
  unfold ixN at h
  by_cases h0:0≤i
  · rw [if_pos h0] at h
    by_cases h1:i < n
    · rw [if_pos h1] at h
      have e:i.toNat=j:=Option.some.inj h
      exact ⟨by rw [seqIndex_of h0 h1,e],by omega,by omega,h1⟩
    · rw [if_neg h1] at h;cases h
  · rw [if_neg h0] at h
    by_cases h1:-(n:Int)≤i
    · rw [if_pos h1] at h
      have e:(i + n).toNat=j:=Option.some.inj h
      exact ⟨by rw [seqIndex_neg (by omega) h1,e],by omega,h1,by omega⟩
    · rw [if_neg h1] at h;cases h
theorem atI_get {α:Type} {xs:List α} {i:Int} {v:α} (h:atI xs i=some v):∃ j,seqIndex? i xs.length=some j∧xs[j]?=some v∧j < xs.length∧-(xs.length:Int)≤i∧i < xs.length:=by
  unfold atI at h
  cases e:ixN xs.length i with
  | none=>rw [e] at h;cases h
  | some j =>
    rw [e] at h
    obtain ⟨h1,h2,h3,h4⟩:=ixN_seq e
    exact ⟨j,h1,h,h2,h3,h4⟩
theorem atI_nat {α:Type} {xs:List α} {j:Nat} {v:α} (h:xs[j]?=some v):atI xs (j:Int)=some v:=by
  have hj:j < xs.length:=(List.getElem?_eq_some_iff.mp h).1
  have e:ixN xs.length (j:Int)=some j:=by
    unfold ixN
    rw [if_pos (by omega),if_pos (by omega)];simp
  unfold atI;rw [e];exact h
def PlainIx (b:Expr):Prop:=∀ o i,subscripted b false o i=operate [o,i] (getItem o i)
def IxR (X:Cx) (r:R2):Prop :=
  ∀ (value slice:Expr) (pins:List (Addr × Obj)) (s:Shared) (σ:St) (H:Hp) (x y:V) (v u:Value) (Q:VK),Inv X pins σ H s→RelV x v→RelV y u→r x y H Q →
    subscripted slice false v u=operate [v,u] (getItem v u)→wpAny (model X.prog X.w) X.A (subscriptTail value slice v u) (EP X pins σ Q) X.xe s
def MtR (X:Cx) (id:String) (r:V→List V→Hp→VK→Prop):Prop :=
  ∀ (pins:List (Addr × Obj)) (s:Shared) (σ:St) (H:Hp) (x:V) (xs:List V) (v:Value) (us:List Value) (Q:VK),Inv X pins σ H s→RelV x v→Vals xs us→r x xs H Q →
    wpAny (model X.prog X.w) X.A (call (.builtin id) (v::us)) (EP X pins σ Q) X.xe s
section
variable {X:Cx} {a b:Expr} {ta tb:TE} {pos:Pos}
theorem pe_ix {r:R2} (hr:IxR X r) (ha:PE X a ta) (hb:PE X b tb) (hs:PlainIx b):PE X (.Subscript a b pos) (tOp r ta tb):=by
  intro pins s σ H Q I h
  exact Subscript_ (binT ha hb I h fun v u s2 x y H2 I2 rx ry q=>hr a b pins s2 σ H2 x y v u Q I2 rx ry q (hs _ _))
inductive IxLR (K:PySem.W.Frag) (x y:V) (H:Hp) (Q:VK):Prop
  | mk (p:Addr) (xs:List V) (i:Int) (v:V) (e1:x=.ref p) (e2:y=.int i) (h:SqL K H p xs) (a:atI xs i=some v) (q:Q v H):IxLR K x y H Q
inductive IxTR (K:PySem.W.Frag) (x y:V) (H:Hp) (Q:VK):Prop
  | mk (p:Addr) (xs:List V) (i:Int) (v:V) (e1:x=.ref p) (e2:y=.int i) (h:SqT K H p xs) (a:atI xs i=some v) (q:Q v H):IxTR K x y H Q
def rIxL (K:PySem.W.Frag):R2:=fun x y H Q=>IxLR K x y H Q
def rIxT (K:PySem.W.Frag):R2:=fun x y H Q=>IxTR K x y H Q
theorem ix_list:IxR X (rIxL X.K):=by
  intro value slice pins s σ H x y v u Q I rx ry h hs
  obtain ⟨p,xs,i,z,rfl,rfl,hq,he,q⟩:=h
  cases rx
  obtain ⟨t,rfl⟩:=ry
  obtain ⟨its,r,pl,hz⟩:=I.list hq
  obtain ⟨j,h1,h2,h3,h4,h5⟩:=atI_get he
  obtain ⟨w,ew,rw'⟩:=r.get h2
  have hl:=r.length
  have hn:=line63
  have fin:EP X pins σ Q w s:=⟨z,H,I,rw',q⟩
  by_cases h0:0≤i
  · have hj:i.toNat=j:=by
      rw [seqIndex_of h0 h5] at h1
      exact Option.some.inj h1
    exact item_listR pl.isList h0 (by omega) (by rw [hj];simpa using ew) fin hs
  · have hj:(i + (its.toArray.size:Int)).toNat=j:=by
      rw [seqIndex_neg (by omega) h4] at h1
      rw [List.size_toArray,← hl]
      exact Option.some.inj h1
    exact subscriptTail_builtinR (x:=w) pl.isList.typeIs slot_list_getitem.lookup
      (wpAny_getItem_list_neg (Q:=fun r s'=>r=w∧EP X pins σ Q r s') pl.isList (by omega) (by rw [List.size_toArray] <;> omega) (by omega) (by rw [hj];simpa using ew) ⟨rfl,fin⟩) hs
theorem ix_tup:IxR X (rIxT X.K):=by
  intro value slice pins s σ H x y v u Q I rx ry h hs
  obtain ⟨p,xs,i,z,rfl,rfl,hq,he,q⟩:=h
  cases rx
  obtain ⟨t,rfl⟩:=ry
  obtain ⟨its,r,pl,hz⟩:=I.tuple hq
  obtain ⟨j,h1,h2,h3,h4,h5⟩:=atI_get he
  obtain ⟨w,ew,rw'⟩:=r.get h2
  have hl:=r.length
  have hn:=line63
  have fin:EP X pins σ Q w s:=⟨z,H,I,rw',q⟩
  exact subscriptTail_builtinR (x:=w) pl.typeIs slot_tuple_getitem.lookup
    (getItem_tuple (j:=j) (Q:=fun r s'=>r=w∧EP X pins σ Q r s') pl (by omega) (by omega) (by rw [List.size_toArray,← hl];exact h1) (by simpa using ew) ⟨rfl,fin⟩) hs
theorem mapSeq_set (its:List Value) (n j:Nat) (u:Value):Obj.mapSeq (·.setIfInBounds j u) { cls:=.type "list",data:=.seq its.toArray n }={ cls:=.type "list",data:=.seq (its.set j u).toArray n }:=by
  simp [Obj.mapSeq]
theorem Inv.lst {pins:List (Addr × Obj)} {σ:St} {H:Hp} {s:Shared} {p:Addr} {xs:List V} (I:Inv X pins σ H s) (h:H p=some (.lst xs)) :
    ∃ (its:List Value) (n:Nat),Vals xs its∧s.heap.get? p=some { cls:=.type "list",data:=.seq its.toArray n }∧xs.length≤sizeLine:=by
  obtain ⟨z,its,n,r,e⟩:=I.hok p _ h
  exact ⟨its,n,r,e,z⟩
theorem Inv.lstUpd {pins:List (Addr × Obj)} {σ:St} {H:Hp} {s:Shared} {p:Addr} {xs ys:List V} {its its':List Value} {n n':Nat} {f:Obj→Obj} (I:Inv X pins σ H s) (h:H p=some (.lst xs))
    (ho:s.heap.get? p=some { cls:=.type "list",data:=.seq its.toArray n }) (hf:f { cls:=.type "list",data:=.seq its.toArray n }={ cls:=.type "list",data:=.seq its'.toArray n' }) (r:Vals ys its') (hz:ys.length≤sizeLine) (t:Nat) :
    Inv X pins σ (upd H p (.lst ys)) { s with heap:=s.heap.update p f,toks:=t }:=by
  have e:(s.heap.update p f).get? p=some { cls:=.type "list",data:=.seq its'.toArray n' }:=by
    rw [Heap.get?_update_self f ho (by rw [hf] <;> rfl),hf]
  refine I.write (x:=p) (e:=p) (by rw [h];trivial) (.inl rfl) (fun b u hb q=>(Heap.get?_update_other _ _ (Ne.symm hb)).trans q) ⟨_,e⟩ ?_
  exact ⟨hz,its',n',r,e⟩
def rSetL:V→V→V→Hp→(Hp→Prop)→Prop:=fun o i v H Q=>∃ p xs k j,o=.ref p∧i=.int k∧H p=some (.lst xs)∧ixN xs.length k=some j∧Q (upd H p (.lst (xs.set j v)))
theorem set_list:PSet X rSetL:=by
  intro pins s σ H o i v ov iv u Q I ro ri rv h
  obtain ⟨p,xs,k,j,rfl,rfl,hp,hj,q⟩:=h
  cases ro
  obtain ⟨t,rfl⟩:=ri
  obtain ⟨its,n,r,ho,hz⟩:=I.lst hp
  obtain ⟨h1,h2,h3,h4⟩:=ixN_seq hj
  have hl:=r.length
  have hn:=line63
  have I':Inv X pins σ (upd H p (.lst (xs.set j v))) { s with heap:=s.heap.update p (Obj.mapSeq (·.setIfInBounds j u)) } :=
    I.lstUpd hp ho (mapSeq_set its n j u) (r.set rv j) (by rw [List.length_set];exact hz) s.toks
  by_cases h0:0≤k
  · have hk:k.toNat=j:=by
      rw [seqIndex_of h0 h4] at h1
      exact Option.some.inj h1
    exact PySem.W.ki_setAt ho h0 (by omega) (by rw [List.size_toArray,← hl];exact h4) (by rw [hk];exact ⟨_,I',q⟩)
  · have hk:(k + (its.toArray.size:Int)).toNat=j:=by
      rw [seqIndex_neg (by omega) h3] at h1
      rw [List.size_toArray,← hl]
      exact Option.some.inj h1
    exact PySem.W.ki_setBack ho (by omega) (by rw [List.size_toArray,← hl];exact h3) (by omega) (by rw [hk];exact ⟨_,I',q⟩)
theorem slice_bounds (lo hi:Option Int) (n:Nat):(sliceBounds lo hi none n).1=((HT.sIx n 0 lo:Nat):Int)∧(sliceBounds lo hi none n).2.1=((HT.sIx n n hi:Nat):Int)∧(sliceBounds lo hi none n).2.2=1:=by
  refine ⟨?_,?_,rfl⟩
  · cases lo with
    | none=>simp [sliceBounds,HT.sIx]
    | some i =>
      simp only [sliceBounds,HT.sIx,Option.getD_none,show (1:Int) > 0 by decide,if_true]
      by_cases h:i < 0
      · simp only [h,if_true] <;> omega
      · simp only [h,if_false] <;> omega
  · cases hi with
    | none=>simp [sliceBounds,HT.sIx]
    | some i =>
      simp only [sliceBounds,HT.sIx,Option.getD_none,show (1:Int) > 0 by decide,if_true]
      by_cases h:i < 0
      · simp only [h,if_true] <;> omega
      · simp only [h,if_false] <;> omega
theorem slicePick_cut (its:List Value) (lo hi:Option Int):slicePick its.toArray lo hi none=((its.drop (HT.sIx its.length 0 lo)).take (HT.sIx its.length its.length hi - HT.sIx its.length 0 lo)).toArray:=by
  obtain ⟨h1,h2,h3⟩:=slice_bounds lo hi its.toArray.size
  unfold slicePick
  rw [h1,h2,h3]
  simp only [sliceRange_one,pick_run,List.size_toArray] <;> rfl
def rSlL (K:PySem.W.Frag):V→Option Int→Option Int→Hp→VK→Prop:=fun x lo hi H Q=>∃ a xs,x=.ref a∧SqL K H a xs∧∀ p,H p=none→Q (.ref p) (upd H p (.lst (cutV xs lo hi)))
theorem sl_list:SlR X (rSlL X.K):=by
  intro pins s σ H x v vl vu lo hi sl Q I rx hs pl pu h
  obtain ⟨a,xs,rfl,hx,q⟩:=h
  cases rx
  obtain ⟨its,r,ht,hz⟩:=I.list hx
  have hlen:=r.length
  refine ⟨"list",_,slot_list_getitem.lookup,ht.isList.typeIs,?_⟩
  refine wpAny_getItem_list_slice ht.isList hs pl pu .none (by simp) ?_ (by rw [List.size_toArray] <;> omega)
  rw [slicePick_cut,← hlen]
  refine ⟨.ref s.heap.objs.size,_,I.laid (t':=s.toks) (o:=.lst (cutV xs lo hi)) (fun b ob q=>Heap.get?_push_of_some _ q) (Nat.le_refl _) ?_,rfl,q _ (I.hok.fresh (Nat.le_refl _))⟩
  exact ⟨Nat.le_trans (cutV_length xs lo hi) hz,_,0,(r.drop (HT.sIx xs.length 0 lo)).take (HT.sIx xs.length xs.length hi - HT.sIx xs.length 0 lo),Heap.get?_push_size _ rfl⟩
def flatV:V→Bool
  | .non=>true
  | .bl _=>true
  | .int _=>true
  | .str _=>true
  | _=>false
def eqV:V→V→Bool
  | .non,.non=>true
  | .bl a,.bl b=>a == b
  | .bl a,.int b=>(if a then 1 else 0) == b
  | .int a,.bl b=>a == (if b then 1 else 0)
  | .int a,.int b=>a == b
  | .str a,.str b=>a == b
  | _,_=>false
theorem eqAt_V {A:Around} {s:Shared} {y x:V} {u v:Value} (ry:RelV y u) (rx:RelV x v) (fy:flatV y=true) (fx:flatV x=true):SeqAt.EqAt A s u v (eqV y x):=by
  cases y with
  | non =>
    cases ry
    cases x with
    | non=>cases rx;exact SeqAt.EqAt.same _
    | bl b=>cases rx;exact SeqAt.EqAt.none_bool b
    | int b=>obtain ⟨t,rfl⟩:=rx;exact SeqAt.EqAt.none_int b t
    | str b=>obtain ⟨t,rfl⟩:=rx;exact SeqAt.EqAt.none_str b t
    | _=>exact absurd (show false=true from fx) Bool.false_ne_true
  | bl a =>
    cases ry
    cases x with
    | non=>cases rx;exact SeqAt.EqAt.bool_none a
    | bl b=>cases rx;exact SeqAt.EqAt.bool_bool a b
    | int b=>obtain ⟨t,rfl⟩:=rx;exact SeqAt.EqAt.bool_int a b t
    | str b=>obtain ⟨t,rfl⟩:=rx;exact SeqAt.EqAt.bool_str a b t
    | _=>exact absurd (show false=true from fx) Bool.false_ne_true
  | int a =>
    obtain ⟨t',rfl⟩:=ry
    cases x with
    | non=>cases rx;exact SeqAt.EqAt.int_none a t'
    | bl b=>cases rx;exact SeqAt.EqAt.int_bool a t' b
    | int b=>obtain ⟨t,rfl⟩:=rx;exact SeqAt.EqAt.int_int a t' b t
    | str b=>obtain ⟨t,rfl⟩:=rx;exact SeqAt.EqAt.int_str a t' b t
    | _=>exact absurd (show false=true from fx) Bool.false_ne_true
  | str a =>
    obtain ⟨t',rfl⟩:=ry
    cases x with
    | non=>cases rx;exact SeqAt.EqAt.str_none a t'
    | bl b=>cases rx;exact SeqAt.EqAt.str_bool a t' b
    | int b=>obtain ⟨t,rfl⟩:=rx;exact SeqAt.EqAt.str_int a t' b t
    | str b=>obtain ⟨t,rfl⟩:=rx;exact SeqAt.EqAt.str_str a t' b t
    | _=>exact absurd (show false=true from fx) Bool.false_ne_true
  | _=>exact absurd (show false=true from fy) Bool.false_ne_true
def eqU (x:V) (u:Value):Bool:=match u with
  | .none=>eqV .non x
  | .bool b=>eqV (.bl b) x
  | .int i _=>eqV (.int i) x
  | .str z _=>eqV (.str z) x
  | _=>false
theorem eqU_of {x y:V} {u:Value} (r:RelV y u) (f:flatV y=true):eqU x u=eqV y x:=by
  cases y with
  | non=>cases r;rfl
  | bl b=>cases r;rfl
  | int i=>obtain ⟨t,rfl⟩:=r;rfl
  | str z=>obtain ⟨t,rfl⟩:=r;rfl
  | _=>exact absurd (show false=true from f) Bool.false_ne_true
theorem any_eqU {x:V}:∀ {xs:List V} {us:List Value},Vals xs us→xs.all flatV=true→us.any (eqU x)=xs.any fun y=>eqV y x
  | _,_,.nil,_=>rfl
  | y::xs,u::us,.cons r t,f=>by
    rw [List.all_cons,Bool.and_eq_true] at f
    rw [List.any_cons,List.any_cons,eqU_of r f.1,any_eqU t f.2]
theorem mem_eqAt {A:Around} {s:Shared} {x:V} {v:Value} (rx:RelV x v) (fx:flatV x=true):∀ {xs:List V} {us:List Value},Vals xs us→xs.all flatV=true→∀ u∈us,SeqAt.EqAt A s u v (eqU x u)
  | _,_,.nil,_=>fun u hu=>by cases hu
  | y::xs,u::us,.cons r t,f=>fun u' hu=>by
    rw [List.all_cons,Bool.and_eq_true] at f
    rcases List.mem_cons.mp hu with rfl | hu
    · rw [eqU_of r f.1];exact eqAt_V r rx f.1 fx
    · exact mem_eqAt rx fx t f.2 u' hu
def inV (x:V) (xs:List V):Bool:=xs.any fun y=>eqV y x
def rIn (K:PySem.W.Frag) (neg:Bool):R2:=fun x y H Q=>∃ p xs,y=.ref p∧(SqL K H p xs∨SqT K H p xs)∧flatV x=true∧xs.all flatV=true∧Q (.bl (if neg then !inV x xs else inV x xs)) H
theorem op_in_seq:OpR X (compareOp .In) (rIn X.K false):=by
  intro pins s σ H x y v u Q I rx ry h
  obtain ⟨p,xs,rfl,hq,fx,fs,q⟩:=h
  cases ry
  rcases hq with hq | hq
  · obtain ⟨its,r,pl,hz⟩:=I.list hq
    refine SeqAt.in_listAt (eqU x) pl.isList (fun w hw=>mem_eqAt rx fx r fs w (by simpa using hw)) ⟨.bl _,H,I,rfl,?_⟩
    rw [show its.toArray.any (eqU x)=its.any (eqU x) by simp,any_eqU r fs]
    exact q
  · obtain ⟨its,r,pl,hz⟩:=I.tuple hq
    refine SeqAt.in_tupleAt (eqU x) pl (fun w hw=>mem_eqAt rx fx r fs w (by simpa using hw)) ⟨.bl _,H,I,rfl,?_⟩
    rw [show its.toArray.any (eqU x)=its.any (eqU x) by simp,any_eqU r fs]
    exact q
theorem call_len_seq:CallR X (.builtin "len") (fun xs H Q=>∃ p ys,xs=[.ref p]∧(SqL X.K H p ys∨SqT X.K H p ys)∧Q (.int ys.length) H):=by
  intro pins s σ H xs us Q I r h
  obtain ⟨p,ys,rfl,hq,q⟩:=h
  obtain ⟨u,rfl,rx⟩:=vals1 r
  cases rx
  have hn:=line63
  rcases hq with hq | hq
  · obtain ⟨its,r',pl,hz⟩:=I.list hq
    have hlen:=r'.length
    exact Calls.call_len_list pl.isList (by simp only [List.size_toArray] <;> omega) ⟨.int ys.length,H,I.tok _,⟨s.toks + 1,by rw [List.size_toArray,hlen]⟩,q⟩
  · obtain ⟨its,r',pl,hz⟩:=I.tuple hq
    have hlen:=r'.length
    exact len_tuple pl (by simp only [List.size_toArray] <;> omega) ⟨.int ys.length,H,I.tok _,⟨s.toks + 1,by rw [List.size_toArray,hlen]⟩,q⟩
theorem call_list_of:CallR X (.type "list") (fun xs H Q=>∃ p ys,xs=[.ref p]∧(SqL X.K H p ys∨SqT X.K H p ys)∧∀ l,H l=none→Q (.ref l) (upd H l (.lst ys))):=by
  intro pins s σ H xs us Q I r h
  obtain ⟨p,ys,rfl,hq,q⟩:=h
  obtain ⟨u,rfl,rx⟩:=vals1 r
  cases rx
  have fin:∀ (its:List Value),Vals ys its→ys.length≤sizeLine→∀ (h':Heap) (c':Nat),(∀ b o',s.heap.get? b=some o'→h'.get? b=some o') →
      h'.get? s.heap.objs.size=some { cls:=.type "list",dict:=none,data:=.seq its.toArray c',slots:=#[] }→EP X pins σ Q (.ref s.heap.objs.size) { s with heap:=h' }:=fun its r' hz h' c' kp e =>
    ⟨.ref s.heap.objs.size,_,I.laid (t':=s.toks) kp (Nat.le_refl _) (show ObjOk X.prog X.w _ h' _ (.lst ys) from ⟨hz,its,c',r',e⟩),rfl,q _ (I.hok.fresh (Nat.le_refl _))⟩
  rcases hq with hq | hq
  · obtain ⟨its,r',pl,hz⟩:=I.list hq
    have hlen:=r'.length
    obtain ⟨o,ho,hc,n,hd⟩:=pl.isList
    exact call_list_seq p (.inl rfl) ho hc hd (fun h' c' kp e=>fin its r' hz h' c' kp e) (by simp only [List.size_toArray] <;> omega)
  · obtain ⟨its,r',pl,hz⟩:=I.tuple hq
    have hlen:=r'.length
    obtain ⟨o,ho,hc,n,hd⟩:=pl
    exact call_list_seq p (.inr rfl) ho hc hd (fun h' c' kp e=>fin its r' hz h' c' kp e) (by simp only [List.size_toArray] <;> omega)
theorem call_tuple_of:CallR X (.type "tuple") (fun xs H Q=>∃ p ys,xs=[.ref p]∧((SqL X.K H p ys∧∀ l,H l=none→Q (.ref l) (upd H l (.tup ys)))∨(SqT X.K H p ys∧Q (.ref p) H))):=by
  intro pins s σ H xs us Q I r h
  obtain ⟨p,ys,rfl,h⟩:=h
  obtain ⟨u,rfl,rx⟩:=vals1 r
  cases rx
  rcases h with ⟨hq,q⟩ | ⟨hq,q⟩
  · obtain ⟨its,r',pl,hz⟩:=I.list hq
    have hlen:=r'.length
    refine call_tuple_list pl.isList (fun h' kp=>?_) (by simp only [List.size_toArray] <;> omega)
    have I1:Inv X pins σ H { s with heap:=h' }:=I.kept (t':=s.toks) kp
    have I2:Inv X pins σ (upd H h'.objs.size (.tup ys)) { s with heap:=h'.push { cls:=.type "tuple",data:=.seq its.toArray } } :=
      I1.laid (t':=s.toks) (fun b o e=>Heap.get?_push_of_some _ e) (Nat.le_refl _) (show ObjOk X.prog X.w _ _ _ (.tup ys) from ⟨hz,its,r',IsTup.new _ _⟩)
    exact ⟨.ref h'.objs.size,_,I2,rfl,q _ (I1.hok.fresh (Nat.le_refl _))⟩
  · obtain ⟨its,r',pl,hz⟩:=I.tuple hq
    exact call_tuple_same pl ⟨.ref p,H,I,rfl,q⟩
def tyV (K:PySem.W.Frag) (T:String) (x:V) (H:Hp):Prop:=match x with
  | .str _=>T="str"
  | .int _=>T="int"
  | .ref p=>(T="list"∧∃ xs,SqL K H p xs)∨(T="tuple"∧∃ o,K.lookup p=some o∧o.cls=.type "tuple"∧o.dict=none) ∨
      (T="dict"∧((∃ kvs,H p=some (.dK kvs))∨∃ kvs,H p=some (.dT kvs)))∨(T="set"∧∃ S n,H p=some (.set S n))
  | _=>False
theorem tyV_is {pins:List (Addr × Obj)} {σ:St} {H:Hp} {s:Shared} {T:String} {x:V} {v:Value} (I:Inv X pins σ H s) (r:RelV x v) (ty:tyV X.K T x H) :
    s.TypeIs v T∧∀ a,v=.ref a→∃ ob,s.heap.get? a=some ob∧ob.dict=none:=by
  cases x with
  | str z =>
    obtain ⟨t,rfl⟩:=r
    cases (show T="str" from ty)
    exact ⟨typeIs_str s z t,fun _ e=>nomatch e⟩
  | int i =>
    obtain ⟨t,rfl⟩:=r
    cases (show T="int" from ty)
    exact ⟨typeIs_int s i t,fun _ e=>nomatch e⟩
  | ref p =>
    cases r
    rcases ty with ⟨rfl,xs,hq⟩ | ⟨rfl,o,hk,hc,hd⟩ | ⟨rfl,hk⟩ | ⟨rfl,S,n,hk⟩
    · obtain ⟨its,_,pl,_⟩:=I.list hq
      refine ⟨pl.isList.typeIs,fun a e=>?_⟩
      cases e
      obtain ⟨o,n,e,c,hd,_⟩:=pl
      exact ⟨o,e,hd⟩
    · refine ⟨⟨o,I.kIn p o hk,hc⟩,fun a e=>?_⟩
      cases e
      exact ⟨o,I.kIn _ o hk,hd⟩
    · have z:∃ o,s.heap.get? p=some o∧o.ExactDict:=by
        rcases hk with ⟨kvs,hk⟩ | ⟨kvs,hk⟩
        · obtain ⟨_,_,_,_,o,_,_,e,ex,_⟩:=I.hok p _ hk
          exact ⟨o,e,ex⟩
        · obtain ⟨_,_,_,_,o,_,_,e,ex,_⟩:=I.hok p _ hk
          exact ⟨o,e,ex⟩
      obtain ⟨o,e,ex⟩:=z
      refine ⟨⟨o,e,ex.1⟩,fun a e2=>?_⟩
      cases e2
      exact ⟨o,e,ex.2.1⟩
    · obtain ⟨o,_,_,_,e,ex,_⟩:=I.hok p _ hk
      refine ⟨⟨o,e,ex.1⟩,fun a e2=>?_⟩
      cases e2
      exact ⟨o,e,ex.2.1⟩
  | _=>exact False.elim ty
def tBM (K:PySem.W.Frag) (T:String) (r:V→List V→Hp→VK→Prop) (to:TE) (t:TA):TE:=fun σ H Q=>to σ H fun x H1=>tyV K T x H1∧t σ H1 fun xs H2=>r x xs H2 Q
variable {o e:Expr} {es:List Expr} {to:TE} {t:TA} {name:Str} {apos cpos:Pos} {T id:String} {r:V→List V→Hp→VK→Prop}
theorem pe_bm (pa:PlainAttrs T) (slot:Slot T name id) (hty:typeOf (.builtin id)=pure (.type "method_descriptor")) (hm:MtR X id r) (ho:PE X o to) (ha:PA X (e::es) t)
    (hbase:attributeBase o name X.env (eval o X.env)=eval o X.env:=by rfl)
    (hfew:((backTo cpos (starEach (e::es) X.env)).all (fun x=>!x.1) && (backToKw cpos (keywordEach [] X.env)).all (fun x=>x.1.isSome)
      && decide ((e::es).length + ([]:List Keyword).length + (if ([]:List Keyword).isEmpty then 0 else 1) < 30))=true:=by rfl)
    (hline:(apos.endLine == cpos.line)=true:=by rfl) (hs:starEach (e::es) X.env=(false,eval e X.env)::starEach es X.env:=by rfl) (hplain:(backTo cpos (starEach es X.env)).any (·.1)=false:=by rfl) :
    PE X (.Call (.Attribute o name apos) (e::es) [] cpos) (tBM X.K T r to t):=by
  intro pins s σ H Q I h
  refine wpAny_Call_method_late hbase hfew hline rfl (thn (ho pins s σ H _ I h) fun v s1 ⟨x,H1,I1,r1,ty,q1⟩=>?_)
  obtain ⟨h1,h2⟩:=tyV_is I1 r1 ty
  refine ⟨T,id,pa,slot,hty,h1,h2,?_⟩
  have hA:=ha cpos pins s1 σ H1 _ I1 q1
  rw [hs] at hA ⊢
  refine Calls.callWith_builtin (by show (false || (backTo cpos (starEach es X.env)).any (·.1))=false;rw [hplain] <;> rfl) (Calls.evalArgs_plain ?_)
  exact thn hA fun us s2 ⟨vs,H2,I2,r2,q2⟩=>hm pins s2 σ H2 x vs v us Q I2 r1 r2 q2
end
end L2
namespace L2
open PySem PySem.Spec PyProof.Rows
def MtM (X:Cx) (id:String) (r:V→List V→Hp→VK→Prop):Prop :=
  ∀ (pins:List (Addr × Obj)) (s:Shared) (σ:St) (H:Hp) (x:V) (xs:List V) (v:Value) (us:List Value) (Q:VK),Inv X pins σ H s→RelV x v→Vals xs us→r x xs H Q →
    wpAny (model X.prog X.w) X.A (call (.builtin id) (v::us)) (EP X pins σ Q) X.xe s
theorem Vals.one:∀ {x:V} {us:List Value},Vals [x] us→∃ u,us=[u]∧RelV x u
  | _,_,.cons r .nil=>⟨_,rfl,r⟩
theorem Vals.two:∀ {x y:V} {us:List Value},Vals [x,y] us→∃ u v,us=[u,v]∧RelV x u∧RelV y v
  | _,_,_,.cons r (.cons q .nil)=>⟨_,_,rfl,r,q⟩
theorem Vals.eraseIdx:∀ {xs:List V} {us:List Value} (i:Nat),Vals xs us→Vals (xs.eraseIdx i) (us.eraseIdx i)
  | _,_,_,.nil=>.nil
  | _,_,0,.cons _ t=>t
  | _,_,i + 1,.cons r t=>.cons r (Vals.eraseIdx i t)
theorem len_erase {α:Type}:∀ (l:List α) (i:Nat),(l.eraseIdx i).length≤l.length
  | [],_=>Nat.le_refl _
  | _::_,0=>Nat.le_succ _
  | _::r,i + 1=>Nat.succ_le_succ (len_erase r i)
section
variable {X:Cx} {pins:List (Addr × Obj)} {σ:St} {H:Hp} {s:Shared} {l b:Addr} {xs ys zs:List V}
theorem Inv.lset {its its':List Value} {n:Nat} {f:Array Value→Array Value} {t':Nat} (I:Inv X pins σ H s) (hH:H l=some (.lst xs))
    (e:s.heap.get? l=some { cls:=.type "list",data:=.seq its.toArray n }) (hf:f its.toArray=its'.toArray) (hv:Vals ys its') (hz:ys.length≤sizeLine) :
    Inv X pins σ (upd H l (.lst ys)) { s with heap:=s.heap.update l (Obj.mapSeq f),toks:=t' }:=by
  have q:=PySem.IsL.update e f
  rw [hf] at q
  refine I.write (x:=l) (e:=l) (by rw [hH];exact trivial) (.inl rfl) (fun b' u hb hu=>(Heap.get?_update_other s.heap (Obj.mapSeq f) (Ne.symm hb)).trans hu) ⟨_,q⟩ ?_
  exact ⟨hz,its',_,hv,q⟩
theorem Inv.lnew {its:List Value} {t':Nat} (I:Inv X pins σ H s) (hv:Vals ys its) (hz:ys.length≤sizeLine) :
    Inv X pins σ (upd H s.heap.objs.size (.lst ys)) { s with heap:=s.heap.push { cls:=.type "list",data:=.seq its.toArray },toks:=t' } :=
  I.laid (fun _ _ q=>Heap.get?_push_of_some _ q) (Nat.le_refl _) ⟨hz,its,0,hv,Heap.get?_push_size _ rfl⟩
theorem Inv.fresh (I:Inv X pins σ H s):H s.heap.objs.size=none:=I.hok.fresh (Nat.le_refl _)
theorem Inv.lstM (I:Inv X pins σ H s) (hH:H l=some (.lst xs)):xs.length≤sizeLine∧∃ (its:List Value) (n:Nat),Vals xs its∧xs.length=its.length∧s.heap.get? l=some { cls:=.type "list",data:=.seq its.toArray n }:=by
  obtain ⟨z,its,n,r,e⟩:=I.hok l _ hH
  exact ⟨z,its,n,r,r.length,e⟩
theorem notLongL {n:Nat} (h:n≤sizeLine):Builtin.List.listTooLong n=false:=by
  unfold Builtin.List.listTooLong
  exact decide_eq_false (by omega)
end
section
variable {X:Cx}
def rAppend:V→List V→Hp→VK→Prop:=fun x vs H Q=>∃ l xs y,x=.ref l∧vs=[y]∧H l=some (.lst xs)∧xs.length < sizeLine∧Q .non (upd H l (.lst (xs++[y])))
theorem mt_append:MtM X "list.append" rAppend:=by
  intro pins s σ H x vs v us Q I rx rv h
  obtain ⟨l,xs,y,rfl,rfl,hH,hz,q⟩:=h
  cases rx
  obtain ⟨u,rfl,ru⟩:=rv.one
  obtain ⟨z,its,n,r,hl,e⟩:=I.lstM hH
  refine call_meets F.slot_list_append ⟨_,e,rfl⟩ F.entry_list_append (F.args_list_append_2 _ _) (PySem.list_append l its.toArray n u (by rw [List.size_toArray];omega)) ⟨e,?_⟩
  refine ⟨.non,_,I.lset (its':=its++[u]) hH e (by simp) (r.append (.cons ru .nil)) ?_,rfl,q⟩
  rw [List.length_append,List.length_singleton]
  omega
def rExtend:V→List V→Hp→VK→Prop:=fun x vs H Q=>∃ l b xs zs,x=.ref l∧vs=[.ref b]∧H l=some (.lst xs)∧H b=some (.lst zs)∧xs.length + zs.length≤sizeLine∧Q .non (upd H l (.lst (xs++zs)))
theorem mt_extend:MtM X "list.extend" rExtend:=by
  intro pins s σ H x vs v us Q I rx rv h
  obtain ⟨l,b,xs,zs,rfl,rfl,hH,hB,hz,q⟩:=h
  cases rx
  obtain ⟨u,rfl,ru⟩:=rv.one
  cases ru
  obtain ⟨z,its,n,r,hl,e⟩:=I.lstM hH
  obtain ⟨z2,its2,n2,r2,hl2,e2⟩:=I.lstM hB
  have hsz:its.toArray.size + its2.toArray.size≤sizeLine:=by rw [List.size_toArray,List.size_toArray];omega
  have hlong:¬ (!its.toArray.isEmpty && Builtin.List.listTooLong (its.toArray.size + its2.toArray.size))=true:=by
    rw [notLongL hsz,Bool.and_false]
    exact Bool.false_ne_true
  refine call_meets F.slot_list_extend ⟨_,e,rfl⟩ F.entry_list_extend (F.args_list_extend_2 _ _)
    (AutoSeq1.list_extend_list_list_0 l its.toArray n b its2.toArray n2 hlong (by rw [List.size_toArray];omega) (by omega)) ⟨e,e2,?_⟩
  refine ⟨.non,_,I.lset (its':=its++its2) hH e (by simp) (r.append r2) ?_,rfl,q⟩
  rw [List.length_append]
  omega
def rPopAt:V→List V→Hp→VK→Prop:=fun x vs H Q=>∃ l xs i k y,x=.ref l∧vs=[.int i]∧H l=some (.lst xs)∧-(2 ^ 63)≤i∧i < 2 ^ 63∧seqIndex? i xs.length=some k∧xs[k]?=some y∧Q y (upd H l (.lst (xs.eraseIdx k)))
theorem mt_popAt:MtM X "list.pop" rPopAt:=by
  intro pins s σ H x vs v us Q I rx rv h
  obtain ⟨l,xs,i,k,y,rfl,rfl,hH,h1,h2,hk,hy,q⟩:=h
  cases rx
  obtain ⟨u,rfl,ru⟩:=rv.one
  obtain ⟨t,rfl⟩:=ru
  obtain ⟨z,its,n,r,hl,e⟩:=I.lstM hH
  obtain ⟨w,hw,rw'⟩:=r.get hy
  refine call_meets F.slot_list_pop ⟨_,e,rfl⟩ F.entry_list_pop (F.args_list_pop_2 _ _)
    (MeetsSeq.list_pop_at l its.toArray n i t k w (fitsIndex_both h1 h2) (by rw [List.size_toArray,← hl];exact hk) (by rw [← Array.getElem?_toList];exact hw) (by rw [List.size_toArray];omega)) ⟨e,?_⟩
  refine ⟨y,_,I.lset (its':=its.eraseIdx k) hH e ?_ (r.eraseIdx k) ?_,rw',q⟩
  · show its.toArray.eraseIdxIfInBounds k=(its.eraseIdx k).toArray
    rw [List.eraseIdxIfInBounds_toArray]
  · have:=len_erase xs k
    omega
def rCat:R2:=fun x y H Q=>∃ l b xs zs,x=.ref l∧y=.ref b∧H l=some (.lst xs)∧H b=some (.lst zs)∧xs.length + zs.length≤sizeLine∧∀ p,H p=none→Q (.ref p) (upd H p (.lst (xs++zs)))
theorem op_cat:OpR X (binaryOp .Add) rCat:=by
  intro pins s σ H x y v u Q I rx ry h
  obtain ⟨l,b,xs,zs,rfl,rfl,hH,hB,hz,q⟩:=h
  cases rx
  cases ry
  obtain ⟨z,its,n,r,hl,e⟩:=I.lstM hH
  obtain ⟨z2,its2,n2,r2,hl2,e2⟩:=I.lstM hB
  refine PySem.P.add_list e e2 ?_ (by rw [List.size_toArray,List.size_toArray];omega)
  have ea:its.toArray++its2.toArray=(its++its2).toArray:=by simp
  rw [ea]
  exact ⟨.ref _,_,I.lnew (t':=s.toks) (r.append r2) (by rw [List.length_append];omega),rfl,q _ I.fresh⟩
end
section
variable {prog:Program} {w:World} {A:Around} {E:Value→Shared→Prop} {s:Shared}
end
section
variable {X:Cx}
end
end L2
namespace L2
open PySem PySem.Spec PyProof.Rows
theorem Vals.ints:∀ {ns:List Int} {us:List Value},Vals (ns.map V.int) us→IntsAre us ns
  | [],us,h=>by
    rw [List.map_nil] at h
    cases h
    exact IntsAre.nil
  | n::ns,us,h=>by
    rw [List.map_cons] at h
    cases h with
    | cons r t =>
      obtain ⟨k,rfl⟩:=r
      exact IntsAre.cons n k (Vals.ints t)
theorem vals_of_ints:∀ {us:List Value} {ns:List Int},IntsAre us ns→Vals (ns.map V.int) us
  | _,_,.nil=>by rw [List.map_nil];exact Paired.nil
  | _,_,.cons n t h=>by rw [List.map_cons];exact Paired.cons (show RelV (V.int n) (Value.int n t) from ⟨t,rfl⟩) (vals_of_ints h)
theorem Vals.bls:∀ {bs:List Bool} {us:List Value},Vals (bs.map V.bl) us→us=bs.map Value.bool
  | [],us,h=>by
    rw [List.map_nil] at h
    cases h
    rfl
  | b::bs,us,h=>by
    rw [List.map_cons] at h
    cases h with
    | cons r t =>
      cases r
      rw [Vals.bls t,List.map_cons]
theorem Vals.ref1 {a:Addr} {us:List Value} (r:Vals [V.ref a] us):us=[Value.ref a]:=by
  cases r with
  | cons r t =>
    cases t
    cases r
    rfl
section
variable {prog:Program} {w:World} {A:Around} {E:Value→Shared→Prop} {s:Shared} {l:Addr} {its:List Value} {ns:List Int} {Q:Value→Shared→Prop}
end
section
variable {X:Cx}
def rSorted (K:PySem.W.Frag):List V→Hp→VK→Prop:=fun vs H Q=>∃ (a:Addr) (ns:List Int),vs=[V.ref a]∧SqL K H a (ns.map V.int)∧ns.length < 64 ∧
  ∀ (ns':List Int) (p:Addr),ns'.Perm ns→ns'.Pairwise (·≤·)→H p=none→Q (.ref p) (upd H p (.lst (ns'.map V.int)))
theorem small64 {n:Nat} (h:n < 64):n≤sizeLine:=by rw [sizeLine_eq];omega
theorem cr_sorted:CallR X (.builtin "sorted") (rSorted X.K):=by
  intro pins s σ H vs us Q I r h
  obtain ⟨a,ns,rfl,hs,h64,q⟩:=h
  obtain ⟨its,rv,hl,_⟩:=I.list hs
  rw [Vals.ref1 r]
  have hi:=rv.ints
  refine PyProof.Rows.sorted_ints hl.isList hi (by rw [hi.length];exact h64) fun out ns' h1 h2 h3=>?_
  obtain ⟨ep,he'⟩:=PyProof.Rows.sortedAll_at s.heap its out
  have hlen:(ns'.map V.int).length≤sizeLine:=by rw [List.length_map,h2.length_eq];exact small64 h64
  exact ⟨.ref _,upd H (s.heap.objs.size + 1) (.lst (ns'.map V.int)),I.laid (t':=s.toks) (fun _ _=>PyProof.Rows.sortedAll_old) (Nat.le_succ _) ⟨hlen,out.toList,ep,vals_of_ints h1,he'⟩,rfl,q ns' _ h2 h3 (I.hok.fresh (Nat.le_succ _))⟩
end
section
variable {X:Cx}
end
section
variable {X:Cx}
end
theorem iter_any {prog:Program} {w:World} {A:Around} {E:Value→Shared→Prop} {s:Shared} {l:Addr} {items:Array Value} {Q:Value→Shared→Prop} (hl:s.heap.IsList l items)
    (h:∀ s₂:Shared,s₂={ s with heap:=s.heap.push { cls:=.type "list_iterator",data:=.fields #[.ref l,.int 0 0] } } →
      (s₂.heap.IsListIter s.heap.objs.size l 0∧s₂.heap.IsList l items)→l≠s.heap.objs.size→Q (.ref s.heap.objs.size) s₂):wpAny (model prog w) A (pyIter (.ref l)) Q E s:=by
  have hlt:l < s.heap.objs.size:=by obtain ⟨_,e,_⟩:=hl;exact Heap.lt_size e
  exact wpAny_pyIter_list hl (h _ rfl ⟨⟨_,Heap.get?_push_size _ rfl,rfl,rfl⟩,hl.push _⟩ (Nat.ne_of_lt hlt))
theorem truth_bools {prog:Program} {w:World} {A:Around} {bs:List Bool} {its:List Value} (e:its=bs.map Value.bool) :
    TruthOf prog w A (fun i v=>its.toArray[i]?=some v) (fun i=>bs.getD i false):=fun i v s Q E hv hq=>by
  have hv':its[i]?=some v:=by simpa using hv
  rw [e,List.getElem?_map] at hv'
  obtain ⟨b,hb,rfl⟩:=Option.map_eq_some_iff.mp hv'
  have hg:bs.getD i false=b:=by rw [List.getD_eq_getElem?_getD,hb] <;> rfl
  have hq':Q (bs.getD i false) s:=hq
  rw [hg] at hq'
  exact wpAny_truthy_bool hq'
theorem any_range:∀ bs:List Bool,(List.range bs.length).any (fun i=>bs.getD i false)=bs.any id
  | []=>rfl
  | b::bs=>by
    rw [List.length_cons,List.range_succ_eq_map,List.any_cons,List.any_map,List.any_cons,← any_range bs]
    all_goals rfl
theorem all_range:∀ bs:List Bool,(List.range bs.length).all (fun i=>bs.getD i false)=bs.all id
  | []=>rfl
  | b::bs=>by
    rw [List.length_cons,List.range_succ_eq_map,List.all_cons,List.all_map,List.all_cons,← all_range bs]
    all_goals rfl
section
variable {X:Cx}
def rAny (K:PySem.W.Frag):List V→Hp→VK→Prop:=fun vs H Q=>∃ (a:Addr) (bs:List Bool),vs=[V.ref a]∧SqL K H a (bs.map V.bl)∧Q (.bl (bs.any id)) H
def rAll (K:PySem.W.Frag):List V→Hp→VK→Prop:=fun vs H Q=>∃ (a:Addr) (bs:List Bool),vs=[V.ref a]∧SqL K H a (bs.map V.bl)∧Q (.bl (bs.all id)) H
theorem cr_any (hc:X.calm=true):CallR X (.builtin "any") (rAny X.K):=by
  intro pins s σ H vs us Q I r h
  obtain ⟨a,bs,rfl,hs,q⟩:=h
  obtain ⟨its,rv,hl,_⟩:=I.list hs
  rw [Vals.ref1 r]
  have hb:=rv.bls
  refine call_any_walk (iter_any hl.isList fun s₂ e2 st hne=>?_)
  subst e2
  refine ⟨_,_,_,_,_,_,_,rfl,Walks.list (A:=X.A.in1) (I.ok.hd hc) _ a hne its.toArray,st,truth_bools hb,fun h' tk hk=>?_⟩
  refine ⟨.bl _,H,I.kept fun b o eo=>hk b o (fun hmem=>?_) (Heap.get?_push_of_some _ eo),?_,q⟩
  · rcases List.mem_cons.mp hmem with e1 | hmem
    · exact absurd (e1 ▸ Heap.lt_size eo) (Nat.lt_irrefl _)
    · cases hmem
  · show Value.bool _=Value.bool _
    rw [← any_range,hb,List.size_toArray,List.length_map]
theorem cr_all (hc:X.calm=true):CallR X (.builtin "all") (rAll X.K):=by
  intro pins s σ H vs us Q I r h
  obtain ⟨a,bs,rfl,hs,q⟩:=h
  obtain ⟨its,rv,hl,_⟩:=I.list hs
  rw [Vals.ref1 r]
  have hb:=rv.bls
  refine call_all_walk (iter_any hl.isList fun s₂ e2 st hne=>?_)
  subst e2
  refine ⟨_,_,_,_,_,_,_,rfl,Walks.list (A:=X.A.in1) (I.ok.hd hc) _ a hne its.toArray,st,truth_bools hb,fun h' tk hk=>?_⟩
  refine ⟨.bl _,H,I.kept fun b o eo=>hk b o (fun hmem=>?_) (Heap.get?_push_of_some _ eo),?_,q⟩
  · rcases List.mem_cons.mp hmem with e1 | hmem
    · exact absurd (e1 ▸ Heap.lt_size eo) (Nat.lt_irrefl _)
    · cases hmem
  · show Value.bool _=Value.bool _
    rw [← all_range,hb,List.size_toArray,List.length_map]
end
section
variable {X:Cx} {pins:List (Addr × Obj)} {σ:St} {H:Hp} {s:Shared}
end
section
variable {X:Cx}
end
end L2
namespace L2
open PySem PySem.Spec PyProof.Rows
abbrev CellAt (h:Heap) (c:Addr) (v:Option Value):Prop:=h.IsCell c v
def relS (scope sc:Scope):Scope :=
  { scope with names:=scope.names.map fun (n,k)=>if (k == .free && sc.kind == .function && sc.names.lookup n == some .cell) then (n,.cell) else (n,k) }
def cloFrom (cells:List (Str × Addr)):List (Str × NameKind)→List (Str × Addr)→List (Str × Addr)
  | [],acc=>acc
  | (n,k)::r,acc=>if k == .free then cloFrom cells r ((n,(cells.lookup n).getD 0)::acc) else cloFrom cells r acc
theorem closure_loop (env:Env) (f:Str × NameKind→List (Str × Addr)→Sem (ForInStep (List (Str × Addr))))
    (hf:∀ n k c,f (n,k) c=if k == .free then (do let a ← cellOf env n;pure (.yield ((n,a)::c))) else pure (.yield c)) :
    ∀ (names:List (Str × NameKind)) (acc:List (Str × Addr)),(∀ y∈names,y.2=.free→∃ c,env.cells.lookup y.1=some c)→forIn names acc f=pure (cloFrom env.cells names acc)
  | [],acc,_=>by rw [List.forIn_nil];rfl
  | (n,k)::r,acc,h=>by
    rw [List.forIn_cons,hf]
    have ih:=fun acc=>closure_loop env f hf r acc fun y hy=>h y (List.mem_cons_of_mem _ hy)
    unfold cloFrom
    by_cases hk:(k == NameKind.free)=true
    · rw [if_pos hk,if_pos hk]
      obtain ⟨c,hc⟩:=h (n,k) List.mem_cons_self (by simpa using hk)
      have e:cellOf env n=pure c:=by unfold cellOf;rw [hc]
      rw [e]
      have e2:(env.cells.lookup n).getD 0=c:=by rw [hc];rfl
      rw [e2]
      exact ih _
    · rw [if_neg hk,if_neg hk]
      exact ih _
theorem closure_ok {scope:Scope} {env:Env} (h:∀ y∈scope.names,y.2=.free→∃ c,env.cells.lookup y.1=some c):closureFor scope env=pure (cloFrom env.cells scope.names []):=by
  simp only [closureFor]
  rw [closure_loop env _ (fun n k c=>rfl) scope.names [] h]
  rfl
theorem mem_lookup {α:Type}:∀ {l:List (Str × α)} {n:Str} {c:α},(n,c)∈l→∃ c',l.lookup n=some c'
  | (k,v)::r,n,c,h=>by
    rw [List.lookup_cons]
    cases hb:n == k with
    | true=>exact ⟨_,rfl⟩
    | false =>
      rcases List.mem_cons.mp h with e | h
      · cases e;simp at hb
      · exact mem_lookup h
theorem cloFrom_mem {cells:List (Str × Addr)}:∀ {names:List (Str × NameKind)} {acc:List (Str × Addr)} {n:Str} {c:Addr},(n,c)∈cloFrom cells names acc→(n,c)∈acc∨((n,.free)∈names∧c=(cells.lookup n).getD 0)
  | [],_,_,_,h=>.inl h
  | (m,k)::r,acc,n,c,h=>by
    unfold cloFrom at h
    split at h
    · rename_i hk
      have hk:k=.free:=by simpa using hk
      rcases cloFrom_mem h with h | ⟨h1,h2⟩
      · rcases List.mem_cons.mp h with e | h
        · cases e;exact .inr ⟨hk ▸ List.mem_cons_self,rfl⟩
        · exact .inl h
      · exact .inr ⟨List.mem_cons_of_mem _ h1,h2⟩
    · rcases cloFrom_mem h with h | ⟨h1,h2⟩
      · exact .inl h
      · exact .inr ⟨List.mem_cons_of_mem _ h1,h2⟩
theorem cloFrom_acc {cells:List (Str × Addr)}:∀ {names:List (Str × NameKind)} {acc:List (Str × Addr)} {p:Str × Addr},p∈acc→p∈cloFrom cells names acc
  | [],_,_,h=>h
  | (m,k)::r,acc,p,h=>by
    unfold cloFrom
    split
    · exact cloFrom_acc (List.mem_cons_of_mem _ h)
    · exact cloFrom_acc h
theorem cloFrom_has {cells:List (Str × Addr)}:∀ {names:List (Str × NameKind)} {acc:List (Str × Addr)} {n:Str},(n,.free)∈names→(n,(cells.lookup n).getD 0)∈cloFrom cells names acc
  | (m,k)::r,acc,n,h=>by
    unfold cloFrom
    rcases List.mem_cons.mp h with e | h
    · cases e
      exact cloFrom_acc List.mem_cons_self
    · split
      · exact cloFrom_has h
      · exact cloFrom_has h
theorem cells_mem:∀ {names:List (Str × NameKind)} {h:Heap} {acc:List (Str × Addr)} {x:Str} {c:Addr},(x,c)∈cellsFrom h.objs.size names acc →
    (x,c)∈acc∨((x,.cell)∈names∧h.objs.size≤c∧CellAt (pushCells h names) c none)
  | [],_,_,_,_,h=>.inl h
  | (n,k)::r,h,acc,x,c,hm=>by
    unfold cellsFrom at hm
    unfold pushCells
    split at hm
    · rename_i hk
      rw [if_pos hk]
      have hk:k=.cell:=by simpa using hk
      rw [← Heap.size_push h { cls:=.type "cell",data:=.cell none }] at hm
      rcases cells_mem hm with hm | ⟨h1,h2,h3⟩
      · rcases List.mem_cons.mp hm with e | hm
        · cases e
          exact .inr ⟨hk ▸ List.mem_cons_self,Nat.le_refl _,_,pushCells_keeps r _ _ _ (Heap.get?_push_size _ rfl),rfl⟩
        · exact .inl hm
      · rw [Heap.size_push] at h2
        exact .inr ⟨List.mem_cons_of_mem _ h1,Nat.le_of_succ_le h2,h3⟩
    · rename_i hk
      rw [if_neg hk]
      rcases cells_mem hm with hm | ⟨h1,h2,h3⟩
      · exact .inl hm
      · exact .inr ⟨List.mem_cons_of_mem _ h1,h2,h3⟩
theorem cells_acc:∀ {names:List (Str × NameKind)} {n:Nat} {acc:List (Str × Addr)} {p:Str × Addr},p∈acc→p∈cellsFrom n names acc
  | [],_,_,_,h=>h
  | (m,k)::r,n,acc,p,h=>by
    unfold cellsFrom
    split
    · exact cells_acc (List.mem_cons_of_mem _ h)
    · exact cells_acc h
theorem cells_has:∀ {names:List (Str × NameKind)} {n:Nat} {acc:List (Str × Addr)} {x:Str},(x,.cell)∈names→∃ c,(x,c)∈cellsFrom n names acc
  | (m,k)::r,n,acc,x,h=>by
    unfold cellsFrom
    rcases List.mem_cons.mp h with e | h
    · cases e
      exact ⟨n,cells_acc List.mem_cons_self⟩
    · split
      · exact cells_has h
      · exact cells_has h
theorem cells_inj:∀ {names:List (Str × NameKind)} {h:Heap} {acc:List (Str × Addr)} {x y:Str} {c:Addr},(∀ p∈acc,p.2 < h.objs.size)→(∀ x y c,(x,c)∈acc→(y,c)∈acc→x=y) →
    (x,c)∈cellsFrom h.objs.size names acc→(y,c)∈cellsFrom h.objs.size names acc→x=y
  | [],_,_,_,_,_,_,hi,h1,h2=>hi _ _ _ h1 h2
  | (n,k)::r,h,acc,x,y,c,hl,hi,h1,h2=>by
    unfold cellsFrom at h1 h2
    split at h1
    · rename_i hk
      rw [if_pos hk] at h2
      rw [← Heap.size_push h { cls:=.type "cell",data:=.cell none }] at h1 h2
      refine cells_inj (h:=h.push _) (fun p hp=>?_) (fun x y c a b=>?_) h1 h2
      · rw [Heap.size_push]
        rcases List.mem_cons.mp hp with rfl | hp
        · exact Nat.lt_succ_self _
        · exact Nat.lt_succ_of_lt (hl p hp)
      · rcases List.mem_cons.mp a with e | a <;> rcases List.mem_cons.mp b with e' | b
        · cases e;cases e';rfl
        · cases e;exact absurd (hl _ b) (Nat.lt_irrefl _)
        · cases e';exact absurd (hl _ a) (Nat.lt_irrefl _)
        · exact hi _ _ _ a b
    · rename_i hk
      rw [if_neg hk] at h2
      exact cells_inj hl hi h1 h2
theorem newEnv_comp {M:Model} {A:Around} {E:Value→Shared→Prop} {s:Shared} {scope:Scope} {globals:Addr} {closure:List (Str × Addr)} {qual:Str} {func:Option Addr} {code:Value} {around:Env} {builtins:Addr} {Q:Env→Shared→Prop}
    (h:Q (newEnv scope s.heap.objs.size globals (cellsFrom (s.heap.objs.size + 1) scope.names closure) qual func code (some around) builtins)
      { s with heap:=pushCells (s.heap.push { cls:=.type "dict",data:=.dict #[] }) scope.names }) :
    wpAny M A (newFunctionEnv scope globals closure [] qual func code (some around) builtins) Q E s:=by
  simp only [newFunctionEnv,Option.isSome_some,if_true]
  refine wpAny_bind (wpAny_alloc ?_)
  refine wpAny_bind (wpAny_layCells _ (fun n k c=>rfl) scope.names closure _ _ ?_)
  rw [show ({ s with heap:=s.heap.push { cls:=.type "dict",data:=.dict #[] } }:Shared).heap.objs.size=s.heap.objs.size + 1 from Heap.size_push ..]
  rw [List.forIn_nil]
  exact wpAny_bind (wpAny_pure (wpAny_pure h))
theorem lookup_relS {sc:Scope}:∀ {names:List (Str × NameKind)} {x:Str} {k:NameKind},
    (names.map fun (n,k)=>if (k == NameKind.free && sc.kind == .function && sc.names.lookup n == some .cell) then (n,NameKind.cell) else (n,k)).lookup x=some k →
    ∃ k',names.lookup x=some k'∧(k=k'∨(k'=.free∧k=.cell))
  | [],_,_,h=>by simp at h
  | (n,k₀)::r,x,k,h=>by
    have ih:=@lookup_relS sc r x k
    have h':List.lookup x ((if (k₀ == NameKind.free && sc.kind == .function && sc.names.lookup n == some .cell)=true then (n,NameKind.cell) else (n,k₀))::(r.map _))=some k:=h
    cases hx:x == n with
    | true =>
      simp only [List.lookup_cons,hx]
      by_cases hc:(k₀ == NameKind.free && sc.kind == .function && sc.names.lookup n == some .cell)=true
      · rw [if_pos hc] at h'
        simp only [List.lookup_cons,hx] at h'
        cases h'
        simp only [Bool.and_eq_true,beq_iff_eq] at hc
        exact ⟨k₀,rfl,.inr ⟨hc.1.1,rfl⟩⟩
      · rw [if_neg hc] at h'
        simp only [List.lookup_cons,hx] at h'
        cases h'
        exact ⟨_,rfl,.inl rfl⟩
    | false =>
      simp only [List.lookup_cons,hx]
      by_cases hc:(k₀ == NameKind.free && sc.kind == .function && sc.names.lookup n == some .cell)=true
      · rw [if_pos hc] at h'
        simp only [List.lookup_cons,hx] at h'
        exact ih h'
      · rw [if_neg hc] at h'
        simp only [List.lookup_cons,hx] at h'
        exact ih h'
structure BlkOk (N:List Str) (sc scope:Scope) (own:List (Str × Nat)):Prop where
  kind:scope.kind=.function
  uniq:∀ y∈scope.names,scope.names.lookup y.1=some y.2
  ix:∀ p∈own,N[p.2]?=some p.1
  free:∀ y∈scope.names,y.2=.free→sc.names.lookup y.1=some .cell∨sc.names.lookup y.1=some .free
  own:∀ y∈scope.names,y.2=.local∨y.2=.cell→y.1∈own.map (·.1)∨y.1∉N
def wipe (σ:St):List Nat→St
  | []=>σ
  | v::vs=>(wipe σ vs).set v none
theorem wipe_length (σ:St):∀ vs:List Nat,(wipe σ vs).length=σ.length
  | []=>rfl
  | v::vs=>by unfold wipe;rw [List.length_set,wipe_length σ vs]
theorem wipe_some {σ:St} {i:Nat} {x:V}:∀ {vs:List Nat},(wipe σ vs)[i]?=some (some x)→σ[i]?=some (some x)∧i∉vs
  | [],h=>⟨h,by simp⟩
  | v::vs,h=>by
    unfold wipe at h
    by_cases hi:v=i
    · subst hi
      by_cases hv:v < (wipe σ vs).length
      · rw [List.getElem?_set_self hv] at h;cases h
      · rw [List.getElem?_eq_none (by simpa using hv)] at h;cases h
    · rw [List.getElem?_set_ne hi] at h
      obtain ⟨h1,h2⟩:=wipe_some h
      exact ⟨h1,by simp only [List.mem_cons,not_or];exact ⟨fun e=>hi e.symm,h2⟩⟩
abbrev Cx.blk (X:Cx) (s:Shared) (H:Hp) (scope:Scope) (cenv:Env) (fp:List Addr):Cx:={ X with s_0:=s,H_0:=H,env:=cenv,outer:=X.stack,ex:=fp,fn:=fun x=>scope.names.lookup x == some .cell,pn:=[],xe:=fun _ _=>False }
section
variable {X:Cx} {pins:List (Addr × Obj)} {σ:St} {H:Hp} {s:Shared}
theorem block_start {scope:Scope} {own:List (Str × Nat)} {fp:List Addr} (I:Inv X pins σ H s) (ok:BlkOk X.N X.env.scope scope own) (hN:X.N.Nodup) (hfp:∀ b∈fp,FpOk X pins H b∧b < s.heap.objs.size) :
    Inv (X.blk s H scope (compEnvC scope (cellsFrom (s.heap.objs.size + 1) scope.names (cloFrom X.env.cells scope.names [])) s.heap.objs.size X.env) fp) [] (wipe σ (own.map (·.2))) H { s with heap:=pushCells (s.heap.push { cls:=.type "dict",data:=.dict #[] }) scope.names }:=by
  have hfree:∀ y∈scope.names,y.2=.free→∃ c,X.env.cells.lookup y.1=some c:=fun y hy e=>by
    rcases ok.free y hy e with k | k
    · exact I.ok.has _ (.inl k)
    · exact I.ok.has _ (.inr k)
  generalize hcenv:compEnvC scope (cellsFrom (s.heap.objs.size + 1) scope.names (cloFrom X.env.cells scope.names [])) s.heap.objs.size X.env=cenv
  have kp:∀ b o,s.heap.get? b=some o→(pushCells (s.heap.push { cls:=.type "dict",data:=.dict #[] }) scope.names).get? b=some o:=fun b o e=>pushCells_keeps _ _ _ _ (Heap.get?_push_of_some _ e)
  have hL:cenv.locals=s.heap.objs.size:=by rw [← hcenv];rfl
  have hcl:cenv.cells=cellsFrom (s.heap.objs.size + 1) scope.names (cloFrom X.env.cells scope.names []):=by rw [← hcenv];rfl
  have hsc:cenv.scope=relS scope X.env.scope:=by rw [← hcenv];rfl
  rw [← Heap.size_push s.heap { cls:=.type "dict",data:=.dict #[] }] at hcl
  have cm:∀ {y c},(y,c)∈cloFrom X.env.cells scope.names []→X.env.cells.lookup y=some c∧c < s.heap.objs.size:=fun {y c} hm=>by
    rcases cloFrom_mem hm with hm | ⟨h1,rfl⟩
    · cases hm
    · obtain ⟨c,hc⟩:=hfree _ h1 rfl
      rw [hc]
      obtain ⟨w,z⟩:=I.cell _ _ hc
      exact ⟨rfl,z.lt⟩
  have mem:∀ {y c},cenv.cells.lookup y=some c→(X.env.cells.lookup y=some c∧c < s.heap.objs.size)∨(s.heap.objs.size + 1≤c∧CellAt (pushCells (s.heap.push { cls:=.type "dict",data:=.dict #[] }) scope.names) c none):=fun {y c} e=>by
    rw [hcl] at e
    rcases cells_mem (PySem.mem_of_lookup e) with hm | ⟨_,h2,h3⟩
    · exact .inl (cm hm)
    · rw [Heap.size_push] at h2;exact .inr ⟨h2,h3⟩
  have look:∀ {y},scope.names.lookup y=some .free→∃ c,cenv.cells.lookup y=some c∧X.env.cells.lookup y=some c:=fun {y} hl=>by
    have hy:(y,NameKind.free)∈scope.names:=PySem.mem_of_lookup hl
    obtain ⟨c',e'⟩:=mem_lookup (cells_acc (names:=scope.names) (n:=(s.heap.push { cls:=.type "dict",data:=.dict #[] }).objs.size) (cloFrom_has (cells:=X.env.cells) (acc:=[]) hy))
    rw [← hcl] at e'
    refine ⟨c',e',?_⟩
    rw [hcl] at e'
    rcases cells_mem (PySem.mem_of_lookup e') with hm | ⟨h1,_,_⟩
    · exact (cm hm).1
    · have:=ok.uniq _ h1
      rw [hl] at this;cases this
  have okB:(X.blk s H scope cenv fp).Ok:=by
    refine ⟨I.ok.mod,by show cenv.scope.kind=_;rw [hsc];exact ok.kind,by show cenv.globals=_;rw [← hcenv];exact I.ok.glob,by show cenv.builtins=_;rw [← hcenv];exact I.ok.blt,by show s.heap.objs.size≤cenv.locals;rw [hL];exact Nat.le_refl _,
      fun y z c e1 e2=>?_,fun y hy=>?_,fun y c z e=>?_,I.ok.hd,I.ok.frames,.inl rfl,fun b hb=>⟨?_,fun y c e z=>?_⟩,I.bs,Nat.le_trans I.ok.bsz I.sz,fun b o e hb=>?_,fun b hb z=>?_,I.stack,I.stkFree⟩
    · have e1:cenv.cells.lookup y=some c:=e1
      have e2:cenv.cells.lookup z=some c:=e2
      rw [hcl] at e1 e2
      refine cells_inj (fun p hp=>?_) (fun y z c a b=>I.ok.inj y z c (cm a).1 (cm b).1) (PySem.mem_of_lookup e1) (PySem.mem_of_lookup e2)
      rw [Heap.size_push]
      exact Nat.lt_succ_of_lt (cm (y:=p.1) (c:=p.2) hp).2
    · show ∃ c,cenv.cells.lookup y=some c
      have key:∀ k,cenv.kindOf y=some k→(k=.cell∨k=.free)→∃ c,cenv.cells.lookup y=some c:=fun k hk hk'=>by
        unfold Env.kindOf at hk
        rw [hsc] at hk
        obtain ⟨k',e,r⟩:=lookup_relS hk
        have:k'=.cell∨k'=.free:=by
          rcases r with rfl | ⟨rfl,_⟩
          · exact hk'
          · exact .inr rfl
        rcases this with rfl | rfl
        · obtain ⟨c,hm⟩:=cells_has (n:=(s.heap.push { cls:=.type "dict",data:=.dict #[] }).objs.size) (acc:=cloFrom X.env.cells scope.names []) (PySem.mem_of_lookup e)
          obtain ⟨c',e'⟩:=mem_lookup hm
          exact ⟨c',by rw [hcl];exact e'⟩
        · obtain ⟨c,h1,_⟩:=look e
          exact ⟨c,h1⟩
      rcases hy with hy | hy
      · exact key _ hy (.inl rfl)
      · exact key _ hy (.inr rfl)
    · have z:(scope.names.lookup y == some NameKind.cell)=true:=z
      have z:scope.names.lookup y=some .cell:=by simpa using z
      have e:cenv.cells.lookup y=some c:=e
      rw [hcl] at e
      rcases cells_mem (PySem.mem_of_lookup e) with hm | ⟨_,h2,_⟩
      · rcases cloFrom_mem hm with hm | ⟨h1,_⟩
        · cases hm
        · have q:=ok.uniq _ h1
          rw [z] at q;cases q
      · rw [Heap.size_push] at h2
        exact Nat.le_of_succ_le h2
    · show b≠cenv.locals
      rw [hL];exact Nat.ne_of_lt (hfp b hb).2
    · have e:cenv.cells.lookup y=some c:=e
      rcases mem e with ⟨h1,_⟩ | ⟨h1,_⟩
      · exact (hfp b hb).1.2.2.2.2.1 y c h1 z
      · have h2:s.heap.objs.size + 1≤b:=by rw [← z];exact h1
        exact absurd (Nat.lt_of_lt_of_le (hfp b hb).2 (Nat.le_of_succ_le h2)) (Nat.lt_irrefl _)
    · rcases (hfp b hb).1.2.2.2.1 with z | z
      · exact I.ok.noex b o e z
      · exact absurd (Nat.lt_of_lt_of_le (Heap.lt_size e) (Nat.le_trans I.ok.bsz z)) (Nat.lt_irrefl _)
    · rcases List.mem_cons.mp (I.stkSub b z) with z | z
      · exact (hfp b hb).1.2.1 z
      · exact (hfp b hb).1.2.2.1 z
  refine ⟨okB,rfl,I.bare,Un.kept kp,⟨fun _=>none,?_,fun i y av e1 e2 e3=>?_⟩,fun y c e=>?_,?_,fun y c e=>?_,fun p hp=>?_,I.hok.kept kp,by rw [wipe_length];exact I.len⟩
  · show Heap.Ns _ cenv.locals _
    rw [hL]
    exact Heap.Ns.keeps (Heap.Ns.new ..) fun b o e=>pushCells_keeps _ _ _ _ e
  · obtain ⟨e2,hne⟩:=wipe_some e2
    have hfr:scope.names.lookup y=some .free∧(cenv.kindOf y=some .cell∨cenv.kindOf y=some .free):=by
      have key:∀ k,cenv.scope.names.lookup y=some k→k=.local∨k=.cell∨k=.free→scope.names.lookup y=some .free∧(cenv.kindOf y=some .cell∨cenv.kindOf y=some .free):=fun k hk hk'=>by
        have hk0:=hk
        rw [hsc] at hk
        obtain ⟨k',e,r⟩:=lookup_relS hk
        have no:¬ (k'=.local∨k'=.cell):=fun hh=>by
          rcases ok.own _ (PySem.mem_of_lookup e) hh with e' | e'
          · obtain ⟨p,hp,hpy⟩:=List.mem_map.mp e'
            have e3:=ok.ix p hp
            have:p.1=y:=hpy
            rw [this] at e3
            exact hne (List.mem_map.mpr ⟨p,hp,nodup_ix hN e3 e1⟩)
          · exact e' (List.mem_of_getElem? e1)
        rcases r with rfl | ⟨rfl,rfl⟩
        · rcases hk' with rfl | rfl | rfl
          · exact absurd (.inl rfl) no
          · exact absurd (.inr rfl) no
          · exact ⟨e,.inr hk0⟩
        · exact ⟨e,.inl hk0⟩
      have e3:Vis cenv.scope y:=e3
      rcases e3 with e3 | e3 | e3
      · exact key _ e3 (.inl rfl)
      · exact key _ e3 (.inr (.inl rfl))
      · exact key _ e3 (.inr (.inr rfl))
    obtain ⟨m,hn,hl⟩:=I.loc
    have hvis:Vis X.env.scope y:=(ok.free _ (PySem.mem_of_lookup hfr.1) rfl).elim (fun k=>.inr (.inl k)) (fun k=>.inr (.inr k))
    obtain ⟨w,r,q⟩:=hl i y av e1 e2 hvis
    refine ⟨w,r,.inr ⟨hfr.2,?_⟩⟩
    obtain ⟨c,h1,h2⟩:=look hfr.1
    rcases q with ⟨k,_⟩ | ⟨_,c',e',z⟩
    · have k:X.env.scope.names.lookup y=some .local:=k
      rcases ok.free _ (PySem.mem_of_lookup hfr.1) rfl with k' | k' <;> rw [show X.env.scope.names.lookup y=_ from k'] at k <;> cases k
    · rw [h2] at e';cases e'
      exact ⟨c,h1,z.keeps kp⟩
  · have e:cenv.cells.lookup y=some c:=e
    rcases mem e with ⟨h1,_⟩ | ⟨_,z⟩
    · obtain ⟨w,z⟩:=I.cell y c h1
      exact ⟨w,z.keeps kp⟩
    · exact ⟨_,z⟩
  · show H cenv.locals=none
    rw [hL];exact I.hok.fresh (Nat.le_refl _)
  · have e:cenv.cells.lookup y=some c:=e
    rcases mem e with ⟨h1,_⟩ | ⟨h1,_⟩
    · exact I.freeC y c h1
    · exact I.hok.fresh (Nat.le_of_succ_le h1)
  · exact absurd (show p∈([]:List (Addr × Obj))++[] from hp) (by simp)
theorem app_ok {E:Value→Shared→Prop} {D:Addr} {xs:List V} {y:V} {v:Value} {Q:Value→Shared→Prop} (I:Inv X pins σ H s) (hD:H D=some (.lst xs)) (hz:xs.length < sizeLine) (r:RelV y v)
    (h:∀ s',Inv X pins σ (upd H D (.lst (xs++[y]))) s'→Q .none s'):wpAny (model X.prog X.w) X.A (call (.builtin "list.append") [.ref D,v]) Q E s:=by
  obtain ⟨hz',its,n,ri,e⟩:=I.hok D _ hD
  have hl:=ri.length
  refine append_at (hsz:=by rw [List.size_toArray];omega) e fun h' sb ho'=>?_
  refine h { s with heap:=h' } (I.write (t':=s.toks) (by rw [hD];trivial) (.inl rfl) (fun b u hb q=>(sb.2 b hb).trans q) ⟨_,ho'⟩ ⟨by rw [List.length_append];exact hz,its++[v],n + 1,ri.append (.cons r .nil),?_⟩)
  rw [ho']
  simp
def PTs (X:Cx) (ifs:List Expr) (t:TT):Prop :=
  ∀ (pins:List (Addr × Obj)) (s:Shared) (σ:St) (H:Hp) (Q:Bool→Hp→Prop),Inv X pins σ H s→t σ H Q →
    wpAny (model X.prog X.w) X.A (forIn ifs true fun c r=>if r=true then do let ok ← isTrue c X.env (eval c X.env);pure (ForInStep.yield ok) else pure (ForInStep.yield r)) (TP X pins σ Q) X.xe s
def tYes:TT:=fun _ H Q=>Q true H
theorem pts_nil:PTs X [] tYes:=fun _ _ _ H _ I h=>wpAny_tests_nil ⟨H,I,h⟩
theorem pts_one {c:Expr} {t:TT} (h:PT X c t):PTs X [c] t:=fun pins s σ H Q I hw=>wpAny_tests_one (h pins s σ H Q I hw)
end
theorem thnF {α:Type} {t:Sem α} {Q Q':α→Shared→Prop} {M:Model} {A:Around} {E:Value→Shared→Prop} {s:Shared} (h:wpAny M A t Q (fun _ _=>False) s) (hQ:∀ a s,Q a s→Q' a s):wpAny M A t Q' E s:=wpAny_mono h hQ fun _ _ z=>False.elim z
theorem compLoop_any {prog:Program} {w:World} {A:Around} {R:Result→Shared→Prop} {s:Shared} {elt target iter:Expr} {ifs:List Expr} {scope:Scope} {pos:Pos} {it acc:Value} {env:Env} (I:Nat→Shared→Prop)
    (turn:∀ n s,I n s→wpAny (model prog w) A (pyNext it) (fun r s₁=>match r with
      | none=>R (.ok .next) s₁
      | some v=>wpAny (model prog w) A (letOwnedTupleGo target it v) (fun _ s₁'=>wpAny (model prog w) A (assign target env v) (fun _ s₂ =>
          wpAny (model prog w) A (forIn ifs true fun c r=>if r=true then do let ok ← isTrue c env (eval c env);pure (ForInStep.yield ok) else pure (ForInStep.yield r)) (fun ok s₃ =>
            if ok=true then wpAny (model prog w) A (eval elt env) (fun x s₄ =>
              wpAny (model prog w) A (call (.builtin "list.append") [acc,x]) (fun _ s₅=>∃ m,m < n∧I m s₅) (notedBy (model prog w) A env fun e s'=>R (.error e) s') s₄) (notedBy (model prog w) A env fun e s'=>R (.error e) s') s₃
            else ∃ m,m < n∧I m s₃) (notedBy (model prog w) A env fun e s'=>R (.error e) s') s₂) (notedBy (model prog w) A env fun e s'=>R (.error e) s') s₁') (notedBy (model prog w) A env fun e s'=>R (.error e) s') s₁) (notedBy (model prog w) A env fun e s'=>R (.error e) s') s)
    (n:Nat) (h:I n s) :
    codeAny (model prog w) A (.compLoop (.ListComp elt [⟨target,iter,ifs,0⟩] scope pos) 0 it acc env) R s:=by
  refine codeAny_loop rfl I (fun n s hI=>?_) n h
  show wpAny _ A ((compTurn (.ListComp elt [⟨target,iter,ifs,0⟩] scope pos) 0 it acc env).onRaise (fun x=>do noteFrame x env;theTreesLotGoes x)) _ _ s
  refine wpAny_noted ?_
  rw [compTurn_list]
  refine wpAny_bind (wpAny_standAt (wpAny_bind (wpAny_mono (turn n s hI) (fun r s₁ h₁=>?_) fun _ _ h'=>h')))
  cases r with
  | none=>exact wpAny_pure h₁
  | some v =>
    refine wpAny_bind (wpAny_mono h₁ (fun _ s₁' h₁'=>?_) fun _ _ h'=>h')
    refine wpAny_bind (wpAny_mono h₁' (fun _ s₂ h₂=>wpAny_bind (wpAny_mono h₂ (fun ok s₃ h₃=>?_) fun _ _ h'=>h')) fun _ _ h'=>h')
    cases ok with
    | false=>exact wpAny_pure ⟨rfl,h₃⟩
    | true =>
      exact wpAny_bind (wpAny_bind (wpAny_mono h₃ (fun x s₄ h₄=>wpAny_bind (wpAny_mono h₄ (fun _ s₅ h₅=>wpAny_pure (wpAny_pure ⟨rfl,h₅⟩)) fun _ _ h'=>h')) fun _ _ h'=>h'))
section
variable {X:Cx}
def tLc (wi:TI) (g:TG) (tt:TT) (te:TE) (vs:List Nat):TE:=fun σ H Q=>wi σ H fun J H1=>∀ D,H1 D=none→∃ W:Nat→Nat→Hp→Prop,(∃ m,W 0 m (upd H1 D (.lst [])))∧∀ i m H,W i m H →
  (J.stop i H∧Q (.ref D) H)∨(J.go i H∧∃ Nx:Hp→Prop,(∀ H',Nx H'→∃ m',m' < m∧W (i + 1) m' H')∧∀ x H',J.yld i H x H'→g x (wipe σ vs) H' fun σ2 H2=>wipe σ2 vs=wipe σ vs∧tt σ2 H2 fun b H3 =>
    if b=true then te σ2 H3 fun y H4=>∃ acc,H4 D=some (.lst acc)∧acc.length < sizeLine∧Nx (upd H4 D (.lst (acc++[y]))) else Nx H3)
theorem lc_core {pins:List (Addr × Obj)} {s:Shared} {σ:St} {H:Hp} {Q:VK} {elt tg iter:Expr} {ifs:List Expr} {scope:Scope} {own:List (Str × Nat)} {pos pos':Pos} {wi:TI} {g:TG} {tt:TT} {te:TE} {use:Option (Value→Sem Unit)} {Qf:Value→Shared→Prop}
    (hc:X.calm=true) (hN:X.N.Nodup) (I:Inv X pins σ H s) (hi:PI X tg iter wi) (ok:BlkOk X.N X.env.scope scope own)
    (hg:∀ (s:Shared) (H:Hp) (C:Addr) (cl:List (Str × Addr)) (fp:List Addr),PG (X.blk s H scope (compEnvC scope cl C X.env) fp) tg g) (ht:∀ (s:Shared) (H:Hp) (C:Addr) (cl:List (Str × Addr)) (fp:List Addr),PTs (X.blk s H scope (compEnvC scope cl C X.env) fp) ifs tt)
    (he:∀ (s:Shared) (H:Hp) (C:Addr) (cl:List (Str × Addr)) (fp:List Addr),PE (X.blk s H scope (compEnvC scope cl C X.env) fp) elt te) (hs:∀ x,foldedSetIterable iter X.env x=pure x)
    (h:tLc wi g tt te (own.map (·.2)) σ H Q)
    (hRR:∀ D C s' m H',Inv X pins σ H' s'→Q (.ref D) H'→s'.heap.Ns C m→FpOk X pins H' C→compPost (model X.prog X.w) X.A X.xe use Qf (.ref D) C (.ok .next) s') :
    wpAny (model X.prog X.w) X.A (comprehension (.ListComp elt [⟨tg,iter,ifs,0⟩] scope pos) scope X.env pos' (newList []) false (eval iter X.env) use) Qf X.xe s:=by
  have hfree:∀ y∈scope.names,y.2=.free→∃ c,X.env.cells.lookup y.1=some c:=fun y hy e=>by
    rcases ok.free y hy e with k | k
    · exact I.ok.has _ (.inl k)
    · exact I.ok.has _ (.inr k)
  refine wpAny_comprehension_free (use:=use) rfl hs (closure_ok hfree) ok.kind (fun y hy e=>by rw [ok.uniq y hy,e])
    (thn (hi pins s σ H _ I h) fun xv s1 hx=>thn hx fun itv s2 h2=>?_)
  obtain ⟨it,fp,tn,J,H2,e,I2,T,st2,f2,q⟩:=h2
  subst e
  refine wpAny_newObj_type (newEnv_comp ?_) (by show 0≤sizeLine;decide)
  generalize hD:s2.heap.objs.size=D
  have hDn:H2 D=none:=I2.hok.fresh (Nat.le_of_eq hD)
  obtain ⟨W,⟨m0,w0⟩,turn⟩:=q D hDn
  generalize hs3:({ s2 with heap:=s2.heap.push { cls:=.type "list",data:=.seq ([]:List Value).toArray } }:Shared)=s3
  have I3:Inv X pins σ (upd H2 D (.lst [])) s3:=by
    rw [← hs3]
    refine I2.laid (t':=s2.toks) (fun b o e=>Heap.get?_push_of_some _ e) (Nat.le_of_eq hD) ⟨Nat.zero_le _,[],0,.nil,?_⟩
    rw [← hD]
    exact Heap.get?_push_size _ rfl
  have h3:s3.heap=s2.heap.push { cls:=.type "list",data:=.seq ([]:List Value).toArray }:=by rw [← hs3]
  have sz:∀ b∈fp,b < s2.heap.objs.size:=fun b hb=>by
    obtain ⟨o,e,_⟩:=T.obj _ _ st2 b hb
    exact Heap.lt_size e
  have f3:∀ b∈fp,FpOk X pins (upd H2 D (.lst [])) b∧b < s3.heap.objs.size:=fun b hb=>by
    have hlt:=sz b hb
    refine ⟨⟨?_,(f2 b hb).2⟩,by rw [h3,Heap.size_push];exact Nat.lt_succ_of_lt hlt⟩
    rw [upd_ne (by rw [← hD];exact Nat.ne_of_lt hlt)]
    exact (f2 b hb).1
  have st3:tn 0 s3.heap:=T.keep _ _ _ st2 fun b _ o e=>by rw [h3];exact Heap.get?_push_of_some _ e
  have I4:=block_start I3 ok hN f3
  have pg:=hg s3 (upd H2 D (.lst [])) s3.heap.objs.size (cellsFrom (s3.heap.objs.size + 1) scope.names (cloFrom X.env.cells scope.names [])) fp
  have pt:=ht s3 (upd H2 D (.lst [])) s3.heap.objs.size (cellsFrom (s3.heap.objs.size + 1) scope.names (cloFrom X.env.cells scope.names [])) fp
  have pe:=he s3 (upd H2 D (.lst [])) s3.heap.objs.size (cellsFrom (s3.heap.objs.size + 1) scope.names (cloFrom X.env.cells scope.names [])) fp
  show codeAny _ _ (.compStart (.ListComp elt [⟨tg,iter,ifs,0⟩] scope pos) 0 (.ref it) (.ref D) (compEnvC scope (cellsFrom (s3.heap.objs.size + 1) scope.names (cloFrom X.env.cells scope.names [])) s3.heap.objs.size X.env)) (compPost (model X.prog X.w) X.A X.xe use Qf (.ref D) s3.heap.objs.size) { s3 with heap:=pushCells (s3.heap.push { cls:=.type "dict",data:=.dict #[] }) scope.names }
  have nfp:∀ b∈fp,(upd H2 D (.lst [])) b=none:=fun b hb=>(f3 b hb).1.1
  generalize hce:compEnvC scope (cellsFrom (s3.heap.objs.size + 1) scope.names (cloFrom X.env.cells scope.names [])) s3.heap.objs.size X.env=ce at I4 pg pt pe ⊢
  have cL:ce.locals=s3.heap.objs.size:=by subst hce;rfl
  generalize hH3:upd H2 D (.lst [])=H3 at I3 I4 pg pt pe w0 nfp f3
  generalize hs4:({ s3 with heap:=pushCells (s3.heap.push { cls:=.type "dict",data:=.dict #[] }) scope.names }:Shared)=s4 at I4 ⊢
  have st4:tn 0 s4.heap:=T.keep _ _ _ st3 fun b _ o e=>by rw [← hs4];exact pushCells_keeps _ _ _ _ (Heap.get?_push_of_some _ e)
  have stat:∀ {σ':St} {H':Hp} {s':Shared},Inv (X.blk s3 H3 scope ce fp) [] σ' H' s'→(∀ b∈fp,H' b=none)→∀ b∈fp,FpOk (X.blk s3 H3 scope ce fp) [] H' b:=fun {σ' H' s'} I' hn b hb =>
    ⟨hn b hb,(I'.ok.exf b hb).1,I'.ok.exfs b hb,.inl hb,fun x c e=>(I'.ok.exf b hb).2 x c e,fun p hp=>absurd (show p∈([]:List (Addr × Obj))++[] from hp) (by simp)⟩
  have loop:codeAny (model X.prog X.w) X.A (.compLoop (.ListComp elt [⟨tg,iter,ifs,0⟩] scope pos) 0 (.ref it) (.ref D) ce) (compPost (model X.prog X.w) X.A X.xe use Qf (.ref D) s3.heap.objs.size) s4:=by
    refine compLoop_any (fun n s'=>∃ i H',Inv (X.blk s3 H3 scope ce fp) [] (wipe σ (own.map (·.2))) H' s'∧tn i s'.heap∧(∀ b∈fp,H' b=none)∧W i n H') ?_ m0 ⟨0,H3,I4,st4,nfp,w0⟩
    rintro n s5 ⟨i,H5,I5,st5,n5,w5⟩
    rcases turn i n H5 w5 with ⟨stop,qq⟩ | ⟨go,Nx,hNx,step⟩
    · have td:=T.done (X.blk s3 H3 scope ce fp) rfl rfl rfl hc i [] s5 _ H5 (fun _ _=>False) I5 (stat I5 n5) st5 stop
      refine thnF td fun r s6 ⟨hr,I6⟩=>?_
      subst hr
      have I7:Inv X pins σ H5 s6:=I3.call' (ch:=fp) I6.os I6.base I6.hok I6.bare fun b hb=>⟨(f3 b hb).1.2.2.2.1,(f3 b hb).1.2.1,(f3 b hb).1.2.2.2.2.1,(f3 b hb).1.2.2.2.2.2⟩
      have nC:H5 s3.heap.objs.size=none:=by
        have z:H5 ce.locals=none:=I6.free
        rw [cL] at z
        exact z
      obtain ⟨m,hn,_⟩:=I6.loc
      have hn:s6.heap.Ns ce.locals m:=hn
      rw [cL] at hn
      exact hRR D s3.heap.objs.size s6 m H5 I7 qq hn (I3.fpOk (Nat.le_refl _) nC)
    · have ti:=T.item (X.blk s3 H3 scope ce fp) rfl rfl rfl hc i [] s5 _ H5 (fun _ _=>False) I5 (stat I5 n5) st5 go
      refine thnF ti fun r s6 ⟨u,hr,h6⟩=>?_
      subst hr
      refine thnF h6 fun _ s7 ⟨x,H7,I7,r7,y7,st7,n7⟩=>?_
      have I7':=I7.pinned (stat I7 n7) (T.obj _ _ st7)
      refine thnF (pg _ s7 _ H7 x u _ I7' r7 (step x H7 y7)) fun _ s8 ⟨σ8,H8,I8,hw8,q8⟩=>?_
      refine thnF (pt _ s8 σ8 H8 _ I8 q8) fun b s9 ⟨H9,I9,q9⟩=>?_
      have fin:∀ {s':Shared} {H':Hp},Inv (X.blk s3 H3 scope ce fp) ([]++pinsAt fp s7.heap) σ8 H' s'→Nx H'→∃ m,m < n∧∃ i H',Inv (X.blk s3 H3 scope ce fp) [] (wipe σ (own.map (·.2))) H' s'∧tn i s'.heap∧(∀ b∈fp,H' b=none)∧W i m H':=fun {s' H'} I' nx=>by
        obtain ⟨m',hm,w'⟩:=hNx H' nx
        have pin':∀ b∈fp,∀ o,s7.heap.get? b=some o→s'.heap.get? b=some o∧H' b=none:=fun b hb o e =>
          let z:=I'.pin (b,o) (List.mem_append_right _ (List.mem_append_right _ (mem_pinsAt hb e)))
          ⟨z.1,z.2.1⟩
        have hl:(wipe σ (own.map (·.2))).length=σ8.length:=by rw [← hw8,wipe_length]
        refine ⟨m',hm,i + 1,H',(I'.unpinned (pins:=[])).weak hl (fun j v e=>?_),T.keep _ _ _ st7 fun b hb o e=>(pin' b hb o e).1,fun b hb=>?_,w'⟩
        · rw [← hw8] at e
          exact (wipe_some e).1
        · obtain ⟨o,e,_⟩:=T.obj _ _ st7 b hb
          exact (pin' b hb o e).2
      cases b with
      | false =>
        simp only [Bool.false_eq_true,if_false] at q9 ⊢
        exact fin I9 q9
      | true =>
        simp only [if_true] at q9 ⊢
        refine thnF (pe _ s9 σ8 H9 _ I9 q9) fun z s10 ⟨yv,H10,I10,r10,acc,hD10,hz10,nx⟩=>?_
        exact app_ok (X:=X.blk s3 H3 scope ce fp) I10 hD10 hz10 r10 fun s11 I11=>fin I11 nx
  exact codeAny_compStart_list loop (T.self X.A 0 _ _ _ st4 loop)
theorem pe_lc {elt tg iter:Expr} {ifs:List Expr} {scope:Scope} {own:List (Str × Nat)} {pos:Pos} {wi:TI} {g:TG} {tt:TT} {te:TE} (hc:X.calm=true) (hN:X.N.Nodup) (hi:PI X tg iter wi) (ok:BlkOk X.N X.env.scope scope own)
    (hg:∀ (s:Shared) (H:Hp) (C:Addr) (cl:List (Str × Addr)) (fp:List Addr),PG (X.blk s H scope (compEnvC scope cl C X.env) fp) tg g) (ht:∀ (s:Shared) (H:Hp) (C:Addr) (cl:List (Str × Addr)) (fp:List Addr),PTs (X.blk s H scope (compEnvC scope cl C X.env) fp) ifs tt)
    (he:∀ (s:Shared) (H:Hp) (C:Addr) (cl:List (Str × Addr)) (fp:List Addr),PE (X.blk s H scope (compEnvC scope cl C X.env) fp) elt te) (hs:∀ x,foldedSetIterable iter X.env x=pure x:=by intro _;rfl) :
    PE X (.ListComp elt [⟨tg,iter,ifs,0⟩] scope pos) (tLc wi g tt te (own.map (·.2))):=by
  intro pins s σ H Q I h
  rw [eval_ListComp]
  refine lc_core hc hN I hi ok hg ht he hs h fun D C s' m H' I' q hn f=>⟨m,hn,fun h'' sb=>?_⟩
  obtain ⟨f0,f1,f2,f3,f4,f5⟩:=f
  exact ⟨.ref D,H',I'.turned (t':=s'.toks) (fun b o hb e=>(sb.2 b hb).trans e) f0 f1 f3 f4 f5,rfl,q⟩
theorem ps_setLc {i:Nat} {y:Str} {py:Pos} {elt tg iter:Expr} {ifs:List Expr} {scope:Scope} {own:List (Str × Nat)} {pos spos:Pos} {wi:TI} {g:TG} {tt:TT} {te:TE} (hc:X.calm=true) (hN:X.N.Nodup) (hy:X.N[i]?=some y) (hyl:X.env.scope.names.lookup y=some .local)
    (hsw:swapsWith (.ListComp elt [⟨tg,iter,ifs,0⟩] scope pos) (some (.Name y py)) spos.line X.env=pure true) (hi:PI X tg iter wi) (ok:BlkOk X.N X.env.scope scope own)
    (hg:∀ (s:Shared) (H:Hp) (C:Addr) (cl:List (Str × Addr)) (fp:List Addr),PG (X.blk s H scope (compEnvC scope cl C X.env) fp) tg g) (ht:∀ (s:Shared) (H:Hp) (C:Addr) (cl:List (Str × Addr)) (fp:List Addr),PTs (X.blk s H scope (compEnvC scope cl C X.env) fp) ifs tt)
    (he:∀ (s:Shared) (H:Hp) (C:Addr) (cl:List (Str × Addr)) (fp:List Addr),PE (X.blk s H scope (compEnvC scope cl C X.env) fp) elt te) (hs:∀ x,foldedSetIterable iter X.env x=pure x:=by intro _;rfl) :
    PS X (.Assign [.Name y py] (.ListComp elt [⟨tg,iter,ifs,0⟩] scope pos) spos) (tAsg (tLc wi g tt te (own.map (·.2))) (gName i)):=by
  intro pins s σ H D I h
  rw [exec_Assign_Name_used _ _ _ _ hsw]
  refine wpAny_bind (wpAny_standAt (wpAny_bind ?_))
  show wpAny _ X.A (do let _ ← comprehension (.ListComp elt [⟨tg,iter,ifs,0⟩] scope pos) scope X.env (firstIterPos [⟨tg,iter,ifs,0⟩] pos) (newList []) false (eval iter X.env) (some (assign (.Name y py) X.env))) _ _ s
  have h:tLc wi g tt te (own.map (·.2)) σ H (fun x H1=>gName i x σ H1 D.nx):=h
  refine wpAny_bind (thn (lc_core (Qf:=fun _ s'=>SP X pins D .next s') hc hN I hi ok hg ht he hs h fun L C s' m H' I' q hn f=>?_) fun _ s' hq=>wpAny_pure (wpAny_pure hq))
  show wpAny _ _ (assign (.Name y py) X.env (.ref L)) _ _ _
  refine wpAny_assign_Name (store_ok2 (v:=V.ref L) I' hN hy (.inl hyl) rfl (fun s2 I2 ⟨a,sb,ha⟩=>?_) (.inr hyl))
  obtain ⟨f0,f1,f2,f3,f4,f5⟩:=f
  have haC:C≠a:=by
    rcases ha with z | z
    · rw [z];exact f1
    · exact fun e=>f4 y a z e.symm
  refine ⟨m,hn.sameBut sb haC,fun h3 sb3=>?_⟩
  exact ⟨_,H',I2.turned (t':=s2.toks) (fun b o hb e=>(sb3.2 b hb).trans e) f0 f1 f3 f4 f5,q⟩
theorem sw_true {elt:Expr} {gs:List Comprehension} {scope:Scope} {pos py:Pos} {y:Str} {l:Nat} {env:Env} (hk:env.scope.kind=.function) (hy:env.scope.names.lookup y=some .local) (hl:(py.line == pos.line)=true)
    (ha:(scope.names.any fun (n,k)=>n == y && (k == .local || k == .cell))=false):swapsWith (.ListComp elt gs scope pos) (some (.Name y py)) l env=pure true:=by
  have ky:env.kindOf y=some .local:=hy
  have hb:env.blockKind=.function:=by unfold Env.blockKind;rw [hk];rfl
  unfold swapsWith
  simp only [hb,ky,ha,Expr.pos,hl]
  rfl
end
theorem lc_range {lo:Int} {n:Nat} {g:TG} {tt:TT} {te:TE} {vs:List Nat} {σ:St} {H1:Hp} {D:Addr} {Qd:Hp→Prop} (Pv:Nat→Hp→Prop) (h0:Pv 0 (upd H1 D (.lst [])))
    (hs:∀ i H,i < n→Pv i H→g (.int (lo + i)) (wipe σ vs) H fun σ2 H2=>wipe σ2 vs=wipe σ vs∧tt σ2 H2 fun b H3 =>
      if b=true then te σ2 H3 fun y H4=>∃ acc,H4 D=some (.lst acc)∧acc.length < sizeLine∧Pv (i + 1) (upd H4 D (.lst (acc++[y]))) else Pv (i + 1) H3) (hd:∀ H,Pv n H→Qd H) :
    ∃ W:Nat→Nat→Hp→Prop,(∃ m,W 0 m (upd H1 D (.lst [])))∧∀ i m H,W i m H →
      ((Itr lo n).stop i H∧Qd H)∨((Itr lo n).go i H∧∃ Nx:Hp→Prop,(∀ H',Nx H'→∃ m',m' < m∧W (i + 1) m' H')∧∀ x H',(Itr lo n).yld i H x H'→g x (wipe σ vs) H' fun σ2 H2=>wipe σ2 vs=wipe σ vs∧tt σ2 H2 fun b H3 =>
        if b=true then te σ2 H3 fun y H4=>∃ acc,H4 D=some (.lst acc)∧acc.length < sizeLine∧Nx (upd H4 D (.lst (acc++[y]))) else Nx H3):=by
  refine ⟨fun i m H=>m=n - i∧i≤n∧Pv i H,⟨n,by simp,Nat.zero_le _,h0⟩,?_⟩
  rintro i m H ⟨rfl,hi,p⟩
  by_cases hlt:i < n
  · refine .inr ⟨hlt,Pv (i + 1),fun H' p'=>⟨n - (i + 1),by omega,rfl,hlt,p'⟩,fun x H' y=>?_⟩
    obtain ⟨e,y⟩:=y
    subst e y
    exact hs i _ hlt p
  · have e:i=n:=by omega
    subst e
    exact .inl ⟨Nat.le_refl _,hd H p⟩
theorem lc_list {K:PySem.W.Frag} {a:Addr} {xs:List V} {g:TG} {tt:TT} {te:TE} {vs:List Nat} {σ:St} {H1:Hp} {D:Addr} {Qd:Hp→Prop} (Pv:Nat→Hp→Prop) (h0:Pv 0 (upd H1 D (.lst []))) (hl:∀ i H,i≤xs.length→Pv i H→SqL K H a xs)
    (hs:∀ i x H,xs[i]?=some x→Pv i H→g x (wipe σ vs) H fun σ2 H2=>wipe σ2 vs=wipe σ vs∧tt σ2 H2 fun b H3 =>
      if b=true then te σ2 H3 fun y H4=>∃ acc,H4 D=some (.lst acc)∧acc.length < sizeLine∧Pv (i + 1) (upd H4 D (.lst (acc++[y]))) else Pv (i + 1) H3) (hd:∀ H,Pv xs.length H→Qd H) :
    ∃ W:Nat→Nat→Hp→Prop,(∃ m,W 0 m (upd H1 D (.lst [])))∧∀ i m H,W i m H →
      ((Itl K a).stop i H∧Qd H)∨((Itl K a).go i H∧∃ Nx:Hp→Prop,(∀ H',Nx H'→∃ m',m' < m∧W (i + 1) m' H')∧∀ x H',(Itl K a).yld i H x H'→g x (wipe σ vs) H' fun σ2 H2=>wipe σ2 vs=wipe σ vs∧tt σ2 H2 fun b H3 =>
        if b=true then te σ2 H3 fun y H4=>∃ acc,H4 D=some (.lst acc)∧acc.length < sizeLine∧Nx (upd H4 D (.lst (acc++[y]))) else Nx H3):=by
  refine ⟨fun i m H=>m=xs.length - i∧i≤xs.length∧Pv i H,⟨xs.length,by simp,Nat.zero_le _,h0⟩,?_⟩
  rintro i m H ⟨rfl,hi,p⟩
  have q:=hl i H hi p
  by_cases hlt:i < xs.length
  · refine .inr ⟨⟨xs,xs[i],q,by simp [hlt]⟩,Pv (i + 1),fun H' p'=>⟨xs.length - (i + 1),by omega,rfl,hlt,p'⟩,fun x H' y=>?_⟩
    obtain ⟨e,y⟩:=y
    subst e
    exact hs i x _ (y xs q) p
  · have e:i=xs.length:=by omega
    subst e
    exact .inl ⟨⟨xs,q,Nat.le_refl _⟩,hd H p⟩
def blkC (N:List Str) (sc scope:Scope) (own:List (Str × Nat)):Bool :=
  (match scope.kind with | .function=>true | _=>false) && (scope.names.all fun y=>decide (scope.names.lookup y.1=some y.2)) && (own.all fun p=>decide (N[p.2]?=some p.1)) &&
    (scope.names.all fun y=>match y.2 with
      | .free=>(match sc.names.lookup y.1 with | some .cell=>true | some .free=>true | _=>false)
      | .local=>decide (y.1∈own.map (·.1)) || decide (y.1∉N)
      | .cell=>decide (y.1∈own.map (·.1)) || decide (y.1∉N)
      | _=>true)
theorem blkOk_by {N:List Str} {sc scope:Scope} {own:List (Str × Nat)} (h:blkC N sc scope own=true):BlkOk N sc scope own:=by
  unfold blkC at h
  simp only [Bool.and_eq_true,List.all_eq_true,decide_eq_true_eq] at h
  obtain ⟨⟨⟨h1,h2⟩,h3⟩,h4⟩:=h
  refine ⟨?_,h2,h3,fun y hy e=>?_,fun y hy e=>?_⟩
  · split at h1
    · assumption
    · cases h1
  · have q:=h4 y hy
    simp only [e] at q
    split at q <;> first | exact .inl (by assumption) | exact .inr (by assumption) | cases q
  · have q:=h4 y hy
    rcases e with e | e <;> (simp only [e,Bool.or_eq_true,decide_eq_true_eq] at q;exact q)
end L2
namespace L2
open PySem PySem.Spec PyProof.Rows
section
variable {prog:Program} {w:World} {A:Around} {R:Result→Shared→Prop} {s:Shared} {elt t0 i0 t1 i1:Expr} {ifs0 ifs1:List Expr} {scope:Scope} {pos:Pos} {it acc:Value} {env:Env}
end
section
variable {X:Cx}
end
end L2
namespace L2
open PySem PySem.Spec PyProof.Rows
section
variable {κ:Type} [DecidableEq κ]
end
theorem kV_is {P:Program} {w:World} {k:Key} {u:Value} (r:RelV (kV k) u):(mixKind P w).is k u=true:=by
  cases k with
  | inl i=>obtain ⟨t,e⟩:=(show ∃ t,u=Value.int i t from r);subst e;exact mixKind_int P w i t
  | inr x=>obtain ⟨t,e⟩:=(show ∃ t,u=Value.str x t from r);subst e;exact mixKind_str P w x t
theorem items_are {P:Program} {w:World}:∀ {ks:List Key} {us:List Value},Vals (ks.map kV) us→ItemsAre (mixKind P w) ks us
  | [],_,r=>by rw [List.map_nil] at r;cases r;exact .nil
  | k::ks,_,r=>by
    rw [List.map_cons] at r
    cases r with
    | cons h t=>exact .cons (kV_is h) (items_are t)
section
variable {P:Program} {w:World} {H:Hp} {h:Heap} {a:Addr}
theorem key_of {ks:List Key} (ok:HOk P w H h) (e:H a=some (.tup (ks.map kV))):(tupleKind (mixKind P w)).is h ks a:=by
  obtain ⟨_,its,r,o,h1,h2,n,h3⟩:=(show ObjOk P w H h a (.tup (ks.map kV)) from ok a _ e)
  exact ⟨o,its.toArray,n,h1,h2,h3,by simpa using items_are r⟩
end
section
variable {X:Cx} {pins:List (Addr × Obj)} {σ:St} {H:Hp} {s:Shared} {a:Addr} {y v:V} {u r:Value} {o:Option V} {A:Around} {E:Value→Shared→Prop}
theorem Inv.big (I:Inv X pins σ H s):sysModules < s.heap.objs.size:=by
  have h:mainGlobals < s.heap.objs.size:=(I.mod.glob.keeps I.bk).lt
  exact Nat.lt_trans (by decide) h
theorem d_write {h':Heap} {t':Nat} {ob:HO} (I:Inv X pins σ H s) (mu:Mut (H a)) (hs:Heap.SameBut a s.heap h') (he:∃ q,h'.get? a=some q) (new:ObjOk X.prog X.w (upd H a ob) h' a ob) :
    Inv X pins σ (upd H a ob) { s with heap:=h',toks:=t' } :=
  I.write (x:=a) (e:=a) mu (.inl rfl) (fun b q hb z=>(hs.2 b hb).trans z) he new
end
section
variable {X:Cx} {pins:List (Addr × Obj)} {σ:St} {H:Hp} {s:Shared} {a:Addr} {kvs:List (Key × V)} {k:Key} {u:Value} {A:Around} {E:Value→Shared→Prop}
end
section
variable {X:Cx} {o i e value:Expr} {pos pos' tpos:Pos} {td ty tv:TE}
end
section
variable {X:Cx} {pos:Pos}
end
section
variable {X:Cx} {pins:List (Addr × Obj)} {σ:St} {H:Hp} {s:Shared} {a:Addr} {y d:V} {u r:Value} {o:Option V} {A:Around} {E:Value→Shared→Prop}
end
section
variable {X:Cx} {o e f:Expr} {apos cpos:Pos} {td ty tx:TE}
end
section
variable {X:Cx} {pins:List (Addr × Obj)} {σ:St} {H:Hp} {s:Shared} {a:Addr} {kvs:List (Key × V)} {A:Around} {E:Value→Shared→Prop}
end
section
variable {X:Cx} {pins:List (Addr × Obj)} {σ:St} {H:Hp} {s:Shared} {a:Addr} {y:V} {u:Value} {A:Around} {E:Value→Shared→Prop}
end
end L2
namespace L2
open PySem PySem.Spec PyProof.Rows
section
variable {prog:Program} {w:World} {A:Around} {E:Value→Shared→Prop}
end
section
variable {X:Cx}
end
end L2
namespace L2
open PySem PySem.Spec PyProof.Rows
section
variable {X:Cx} {pins:List (Addr × Obj)} {σ:St} {H:Hp} {s:Shared} {h':Heap}
theorem Inv.turnedL {t':Nat} {ch:List Addr} (I:Inv X pins σ H s) (k:∀ b o,b∉ch→s.heap.get? b=some o→h'.get? b=some o) (hf:∀ b∈ch,FpOk X pins H b):Inv X pins σ H { s with heap:=h',toks:=t' }:=by
  have nit:∀ b u,H b=some u→b∉ch:=fun b u e z=>by
    have q:=(hf b z).1
    rw [q] at e;cases e
  refine I.step (g':=s.gens) (d':=s.drawn) (ch:=ch) (fun b hb=>⟨(hf b hb).2.2.2.1,(hf b hb).2.1,(hf b hb).2.2.2.2.1,(hf b hb).2.2.2.2.2⟩) (fun b o _ _ hc e _=>k b o hc e) (fun b o _ _ hc e _=>⟨o.slots,k b o hc e⟩)
    (fun _ _ _ _ n=>n) (fun b o hc e=>⟨o,k b o hc e⟩) (fun _ _ e=>e) (fun _ _ _ e=>e) (fun b ps e=>⟨#[],by rw [e];simp⟩) (fun m hm=>?_) (fun b u e=>?_) I.bare
  · obtain ⟨o,es,ep,ho,r⟩:=hm
    exact ⟨o,es,ep,k _ o (fun z=>(hf _ z).2.1 rfl) ho,r⟩
  · refine (I.hok b u e).stay (fun c v hc q=>k c v ?_ q) (fun _ q=>q) fun _ _ q=>q
    rcases hc with z | z
    · rw [z];exact nit b u e
    · exact nit c _ z
theorem Inv.turnedNew {t':Nat} {ch:List Addr} {T:Addr} {ob:HO} (I:Inv X pins σ H s) (k:∀ b o,b∉ch→s.heap.get? b=some o→h'.get? b=some o) (hf:∀ b∈ch,FpOk X pins H b) (hT:s.heap.objs.size≤T)
    (new:ObjOk X.prog X.w (upd H T ob) h' T ob):Inv X pins σ (upd H T ob) { s with heap:=h',toks:=t' }:=by
  have hn:H T=none:=I.hok.fresh hT
  have nit:∀ b u,H b=some u→b∉ch:=fun b u e z=>by
    have q:=(hf b z).1
    rw [q] at e;cases e
  refine I.step (g':=s.gens) (d':=s.drawn) (ch:=ch) (fun b hb=>⟨(hf b hb).2.2.2.1,(hf b hb).2.1,(hf b hb).2.2.2.2.1,(hf b hb).2.2.2.2.2⟩) (fun b o _ _ hc e _=>k b o hc e) (fun b o _ _ hc e _=>⟨o.slots,k b o hc e⟩)
    (fun b o _ e n=>?_) (fun b o hc e=>⟨o,k b o hc e⟩) (fun b xs e=>?_) (fun b o u e=>?_) (fun b ps e=>⟨#[],?_⟩) (fun m hm=>?_) (fun b u e=>?_) I.bare
  · rw [upd_ne (Nat.ne_of_lt (Nat.lt_of_lt_of_le (Heap.lt_size e) hT))];exact n
  · rw [upd_ne (ne_of_none e hn)];exact e
  · rw [upd_ne (ne_of_none e hn)];exact e
  · rw [upd_ne (ne_of_none e hn),e];simp
  · obtain ⟨o,es,ep,ho,r⟩:=hm
    exact ⟨o,es,ep,k _ o (fun z=>(hf _ z).2.1 rfl) ho,r⟩
  · by_cases hb:b=T
    · subst hb
      rw [upd_same] at e
      cases e
      exact new
    · rw [upd_ne hb] at e
      refine (I.hok b u e).stay (fun c v hc q=>k c v ?_ q) (fun c q=>by rw [upd_ne (ne_of_none q hn)];exact q) fun c xs q=>by rw [upd_ne (ne_of_none q hn)];exact q
      rcases hc with z | z
      · rw [z];exact nit b u e
      · exact nit c _ z
theorem Inv.lock {d:Addr} {u:HO} (I:Inv X pins σ H s) (h:H d=some u) (mu:Mut (some u)):∃ od,Inv X pins σ (upd H d (.frz od u)) s:=by
  have x:=I.hok d u h
  have ex:∃ od,s.heap.get? d=some od:=by
    cases u with
    | lst xs=>obtain ⟨_,_,_,_,e⟩:=x;exact ⟨_,e⟩
    | dK kvs=>obtain ⟨_,_,_,_,o,_,_,e,_⟩:=x;exact ⟨o,e⟩
    | dT kvs=>obtain ⟨_,_,_,_,o,_,_,e,_⟩:=x;exact ⟨o,e⟩
    | set S n=>obtain ⟨o,_,_,_,e,_⟩:=x;exact ⟨o,e⟩
    | ins C dx fs=>obtain ⟨_,_,_,e,_⟩:=x;exact ⟨_,e⟩
    | ext φ=>obtain ⟨_,⟨_,e⟩,_⟩:=x;exact ⟨_,e⟩
    | _=>exact False.elim mu
  obtain ⟨od,e⟩:=ex
  have new:ObjOk X.prog X.w (upd H d (.frz od u)) s.heap d (.frz od u):=by
    refine ⟨e,x.stay (fun b v _ q=>q) (fun b q=>?_) fun b xs q=>?_⟩
    · rw [upd_ne (fun z=>by rw [z,h] at q;cases q;exact mu)];exact q
    · rw [upd_ne (fun z=>by rw [z,h] at q;cases q;exact mu)];exact q
  exact ⟨od,I.write (x:=d) (e:=d) (t':=s.toks) (h':=s.heap) (by rw [h];exact mu) (.inl rfl) (fun b v _ q=>q) ⟨od,e⟩ new⟩
theorem Inv.nofrz {d:Addr} {u:HO} (I:Inv X pins σ H s) (h:H d=some u) (mu:Mut (some u)):∀ o' u',X.H_0 d≠some (.frz o' u'):=fun o' u' e=>by
  have q:=I.base.frzs d o' u' e
  rw [h] at q
  cases q
  exact mu
theorem Inv.unlock {d:Addr} {od:Obj} {u:HO} (I:Inv X pins σ H s) (h:H d=some (.frz od u)) (hn:∀ o' u',X.H_0 d≠some (.frz o' u')):Inv X pins σ (upd H d u) s:=by
  have neH:∀ b o,H b=some o→(∀ o' u',o≠.frz o' u')→b≠d:=fun b o e hne z=>by
    rw [z,h] at e
    cases e
    exact hne _ _ rfl
  have neN:∀ b,H b=none→b≠d:=fun b e z=>by rw [z,h] at e;cases e
  refine ⟨I.ok,I.os,I.bare,⟨I.base.keep,I.base.slot,fun b o e n hx=>?_,I.base.there,fun b xs e=>?_,fun b o x e=>?_,fun b ps e=>?_⟩,I.loc,I.cell,?_,fun x c e=>?_,fun p hp=>?_,fun b o e=>?_,I.len⟩
  · rw [upd_ne (neN b (I.base.free b o e n hx))];exact I.base.free b o e n hx
  · have q:=I.base.tups b xs e
    rw [upd_ne (neH b _ q (fun _ _ z=>nomatch z))];exact q
  · have q:=I.base.frzs b o x e
    rw [upd_ne (fun z=>by rw [z] at e;exact hn _ _ e)];exact q
  · obtain ⟨m,q⟩:=I.base.tbls b ps e
    exact ⟨m,by rw [upd_ne (neH b _ q (fun _ _ z=>nomatch z))];exact q⟩
  · rw [upd_ne (neN _ I.free)];exact I.free
  · rw [upd_ne (neN c (I.freeC x c e))];exact I.freeC x c e
  · obtain ⟨e,n,r⟩:=I.pin p hp
    exact ⟨e,by rw [upd_ne (neN _ n)];exact n,r⟩
  · by_cases hb:b=d
    · rw [hb,upd_same] at e
      cases e
      rw [hb]
      obtain ⟨_,x⟩:=I.hok d _ h
      exact x.stay (fun c v _ q=>q) (fun c q=>by rw [upd_ne (neH c _ q (fun _ _ z=>nomatch z))];exact q) fun c xs q=>by rw [upd_ne (neH c _ q (fun _ _ z=>nomatch z))];exact q
    · rw [upd_ne hb] at e
      exact (I.hok b o e).stay (fun c v _ q=>q) (fun c q=>by rw [upd_ne (neH c _ q (fun _ _ z=>nomatch z))];exact q) fun c xs q=>by rw [upd_ne (neH c _ q (fun _ _ z=>nomatch z))];exact q
end
def tLockE (t:TE):TE:=fun σ H Q=>∃ d u,H d=some u∧Mut (some u)∧∀ od,t σ (upd H d (.frz od u)) fun v H'=>H' d=some (.frz od u)∧Q v (upd H' d u)
section
variable {X:Cx}
theorem pe_lock {e:Expr} {t:TE} (h:PE X e t):PE X e (tLockE t):=by
  intro pins s σ H Q I hw
  obtain ⟨d,u,hd,mu,hw⟩:=hw
  obtain ⟨od,I1⟩:=I.lock hd mu
  refine thn (h pins s σ _ _ I1 (hw od)) fun v s1 ⟨x,H1,I2,r,e2,q⟩=>?_
  exact ⟨x,_,I2.unlock e2 (I.nofrz hd mu),r,q⟩
end
section
variable {X:Cx} {tg:Expr}
end
section
variable {X:Cx} {tg:Expr}
end
section
variable {prog:Program} {w:World} {A:Around} {E:Value→Shared→Prop} {s:Shared}
end
section
variable {X:Cx} {pins:List (Addr × Obj)} {σ:St} {H:Hp} {s:Shared} {d:Addr} {o:Obj}
end
section
variable {P:Program} {w:World} {K:PySem.W.Frag} {tg:Expr} {d:Addr} {o:Obj} {es:Array DictEntry} {ep:Nat}
end
section
variable {X:Cx} {tg e:Expr} {td:TE} {apos cpos:Pos}
end
def Ite (K:PySem.W.Frag) (a:Addr):It :=
  ⟨fun i H=>∃ (xs:List V) (x:V),SqL K H a xs∧xs[i]?=some x,fun i H v H'=>∃ T x,v=.ref T∧H T=none∧H'=upd H T (.tup [.int (i:Nat),x])∧∀ xs,SqL K H a xs→xs[i]?=some x,fun i H=>∃ xs:List V,SqL K H a xs∧xs.length≤i⟩
theorem turn_enum {P:Program} {w:World} {K:PySem.W.Frag} {elts:List Expr} {kk:Nat} {tpos:Pos} (a e it:Addr) :
    Turn P w K (.Tuple elts kk tpos) (Ite K a) [e,it] e (fun i h=>(∃ old,IsEnum h e it ((i:Nat):Int) old)∧h.IsListIter it a i∧e≠it) where
  mem:=by simp
  obj:=fun i h st b hb=>by
    obtain ⟨⟨old,he⟩,⟨o,ho,hc,hd⟩,_⟩:=st
    have e':b=e∨b=it:=by simpa using hb
    rcases e' with z | z
    · rw [z];exact ⟨_,he,fun v q=>nomatch q⟩
    · rw [z];exact ⟨o,ho,fun v q=>by rw [hd] at q;cases q⟩
  keep:=fun i h h' st k=>let ⟨⟨old,he⟩,hi,hne⟩:=st;⟨⟨old,k e (by simp) _ he⟩,hi.at fun o q=>k it (by simp) o q,hne⟩
  item:=by
    intro X hP hw hK hc i pins s σ H E I hf st hg
    subst hP hw hK
    obtain ⟨⟨old,he⟩,hit,hne⟩:=st
    obtain ⟨xs,x,hq,hx⟩:=hg
    obtain ⟨its,rv,p,hz⟩:=I.list hq
    obtain ⟨u,hu,ru⟩:=rv.get hx
    have hel:e < s.heap.objs.size:=Heap.lt_size he
    have hil:it < s.heap.objs.size:=by obtain ⟨_,q,_⟩:=hit;exact Heap.lt_size q
    refine wpAny_pyNext_enum_item he hit p.isList (x:=u) (by simpa using hu) hne fun h' ho hit' hT hsz hk=>?_
    refine ⟨_,rfl,wpAny_letOwnedTupleGo_enum (s:={ s with heap:=h',toks:=s.toks + 1 }) ho fun h'' he' sb=>?_⟩
    have hT2:h''.get? s.heap.objs.size=some { cls:=.type "tuple",data:=.seq #[.int i s.toks,u] }:=(sb.2 _ (Nat.ne_of_gt hel)).trans hT
    have new:ObjOk X.prog X.w (upd H s.heap.objs.size (.tup [.int (i:Nat),x])) h'' s.heap.objs.size (.tup [.int (i:Nat),x]) :=
      ⟨by show 2≤sizeLine;decide,[.int i s.toks,u],.cons ⟨_,rfl⟩ (.cons ru .nil),⟨_,hT2,rfl,_,rfl⟩⟩
    have I1:Inv X pins σ (upd H s.heap.objs.size (.tup [.int (i:Nat),x])) { s with heap:=h'',toks:=s.toks + 1 } :=
      I.turnedNew (ch:=[e,it]) (fun b ob hb q=>(sb.2 b (fun z=>hb (by simp [z]))).trans (hk b ob (fun z=>hb (by simp [z])) (fun z=>hb (by simp [z])) q)) hf (Nat.le_refl _) new
    refine ⟨.ref s.heap.objs.size,_,I1,rfl,⟨_,x,rfl,I.hok.fresh (Nat.le_refl _),rfl,fun ys hy=>by rw [I.list_inj hy hq];exact hx⟩,⟨⟨u,?_⟩,hit'.at fun o q=>(sb.2 it (Ne.symm hne)).trans q,hne⟩,fun b hb=>?_⟩
    · have e1:((i + 1:Nat):Int)=(i:Int) + 1:=by omega
      rw [e1];exact he'
    · have hb':b < s.heap.objs.size:=by
        have e':b=e∨b=it:=by simpa using hb
        rcases e' with z | z
        · rw [z];exact hel
        · rw [z];exact hil
      rw [upd_ne (Nat.ne_of_lt hb')]
      exact (hf b hb).1
  done:=by
    intro X hP hw hK hc i pins s σ H E I hf st hg
    subst hP hw hK
    obtain ⟨⟨old,he⟩,hit,hne⟩:=st
    obtain ⟨xs,hq,hx⟩:=hg
    obtain ⟨its,rv,p,hz⟩:=I.list hq
    obtain ⟨f0,f1,f2,f3,f4,f5⟩:=hf it (by simp)
    have hl:=rv.length
    exact wpAny_pyNext_enum_end (I.ok.hd hc) he hit p.isList (by simp;omega) fun h' eb=>⟨rfl,I.turned (t':=s.toks) (fun b o hb q=>eb b o hb q) f0 f1 f3 f4 f5⟩
  self:=fun A i s Q E st h=>let ⟨⟨_,he⟩,_⟩:=st;wpAny_pyIter_enum he h
def iEnum (K:PySem.W.Frag) (ta:TA):TI:=fun σ H R=>ta σ H fun vs H1=>∃ a xs,vs=[.ref a]∧SqL K H1 a xs∧R (Ite K a) H1
theorem pi_enum {X:Cx} {e:Expr} {ta:TA} {p pos tpos:Pos} {elts:List Expr} {kk:Nat} (hg:Gl X "enumerate") (hm:X.mg "enumerate"=none) (ha:PA X [e] ta) (hs:starEach [e] X.env=[(false,eval e X.env)]:=by rfl) :
    PI X (.Tuple elts kk tpos) (.Call (.Name "enumerate" p) [e] [] pos) (iEnum X.K ta):=by
  intro pins s σ H R I h
  refine Call_ (ld_blt I hg hm boot_enumerate (PyProof.Rows.callWith_type1 (thn (ha pos pins s σ H _ I h) fun us s1 ⟨vs,H1,I1,r1,q1⟩=>?_) hs rfl))
  obtain ⟨a,xs,ex,hq,q⟩:=q1
  subst ex
  cases r1 with
  | cons r rr =>
    cases rr
    cases r
    obtain ⟨its,rv,p',hz⟩:=I1.list hq
    refine call_enumerate_list p'.isList fun h' he hit hsz hk=>wpAny_pyIter_enum he ?_
    have I2:Inv X pins σ H1 { s1 with heap:=h' }:=I1.kept (t':=s1.toks) hk
    refine ⟨s1.heap.objs.size + 1,[s1.heap.objs.size + 1,s1.heap.objs.size],_,_,H1,rfl,I2,turn_enum a (s1.heap.objs.size + 1) s1.heap.objs.size,⟨⟨.none,he⟩,hit,Nat.succ_ne_self _⟩,fun b hb=>?_,q⟩
    have e':b=s1.heap.objs.size + 1∨b=s1.heap.objs.size:=by simpa using hb
    have hle:s1.heap.objs.size≤b:=by
      rcases e' with z | z
      · rw [z];exact Nat.le_add_right _ _
      · rw [z];exact Nat.le_refl _
    exact I1.fpOk hle (I1.hok.fresh hle)
theorem boot_zip5:bootBuiltins "zip"=some (.type "zip"):=by decide +kernel
def Itz (K:PySem.W.Frag) (a b:Addr):It :=
  ⟨fun i H=>∃ (xs ys:List V) (x y:V),SqL K H a xs∧SqL K H b ys∧xs[i]?=some x∧ys[i]?=some y,
    fun i H v H'=>∃ T x y,v=.ref T∧H T=none∧H'=upd H T (.tup [x,y])∧(∀ xs,SqL K H a xs→xs[i]?=some x)∧∀ ys,SqL K H b ys→ys[i]?=some y,
    fun i H=>∃ xs ys:List V,SqL K H a xs∧SqL K H b ys∧(xs.length≤i∨ys.length≤i)⟩
theorem turn_zip {P:Program} {w:World} {K:PySem.W.Frag} {elts:List Expr} {kk:Nat} {tpos:Pos} {a b z TI TO i1 i2:Addr} (D:ZipApart z TI TO i1 i2 a b) :
    Turn P w K (.Tuple elts kk tpos) (Itz K a b) [z,TI,TO,i1,i2] z (fun i h=>IsZip h z TI TO .none∧IsPair h TI (.ref i1) (.ref i2)∧(∃ x y,IsPair h TO x y)∧h.IsListIter i1 a i∧h.IsListIter i2 b i) where
  mem:=by simp
  obj:=fun i h st c hc=>by
    obtain ⟨hz,hTI,⟨x,y,hTO⟩,⟨o1,e1,_,d1⟩,⟨o2,e2,_,d2⟩⟩:=st
    have e':c=z∨c=TI∨c=TO∨c=i1∨c=i2:=by simpa using hc
    rcases e' with q | q | q | q | q
    · rw [q];exact ⟨_,hz,fun v q=>nomatch q⟩
    · rw [q];exact ⟨_,hTI,fun v q=>nomatch q⟩
    · rw [q];exact ⟨_,hTO,fun v q=>nomatch q⟩
    · rw [q];exact ⟨o1,e1,fun v q=>by rw [d1] at q;cases q⟩
    · rw [q];exact ⟨o2,e2,fun v q=>by rw [d2] at q;cases q⟩
  keep:=fun i h h' st k=>by
    obtain ⟨hz,hTI,⟨x,y,hTO⟩,h1,h2⟩:=st
    exact ⟨k z (by simp) _ hz,k TI (by simp) _ hTI,⟨x,y,k TO (by simp) _ hTO⟩,h1.at fun o q=>k i1 (by simp) o q,h2.at fun o q=>k i2 (by simp) o q⟩
  item:=by
    intro X hP hw hK hc i pins s σ H E I hf st hg
    subst hP hw hK
    obtain ⟨hz,hTI,⟨x0,y0,hTO⟩,h1,h2⟩:=st
    obtain ⟨xs,ys,x,y,hqx,hqy,hx,hy⟩:=hg
    obtain ⟨its,rv,p,_⟩:=I.list hqx
    obtain ⟨its2,rv2,p2,_⟩:=I.list hqy
    obtain ⟨u,hu,ru⟩:=rv.get hx
    obtain ⟨u2,hu2,ru2⟩:=rv2.get hy
    have hzl:z < s.heap.objs.size:=Heap.lt_size hz
    refine wpAny_pyNext_zip_item D hz hTI hTO h1 h2 p.isList p2.isList (x:=u) (y:=u2) (by simpa using hu) (by simpa using hu2) fun h' z' TO' h1' h2' hT hsz hk=>?_
    refine ⟨_,rfl,wpAny_letOwnedTupleGo_zip (s:={ s with heap:=h' }) z' fun h'' z'' sb=>?_⟩
    have hT2:h''.get? s.heap.objs.size=some { cls:=.type "tuple",data:=.seq #[u,u2] }:=(sb.2 _ (Nat.ne_of_gt hzl)).trans hT
    have new:ObjOk X.prog X.w (upd H s.heap.objs.size (.tup [x,y])) h'' s.heap.objs.size (.tup [x,y]) :=
      ⟨by show 2≤sizeLine;decide,[u,u2],.cons ru (.cons ru2 .nil),⟨_,hT2,rfl,_,rfl⟩⟩
    have I1:Inv X pins σ (upd H s.heap.objs.size (.tup [x,y])) { s with heap:=h'' } :=
      I.turnedNew (t':=s.toks) (ch:=[z,TI,TO,i1,i2]) (fun c o hb q=>(sb.2 c (fun q'=>hb (by simp [q']))).trans (hk c o (fun q'=>hb (by simp [q'])) (fun q'=>hb (by simp [q'])) (fun q'=>hb (by simp [q'])) (fun q'=>hb (by simp [q'])) q)) hf (Nat.le_refl _) new
    refine ⟨.ref s.heap.objs.size,_,I1,rfl,⟨_,x,y,rfl,I.hok.fresh (Nat.le_refl _),rfl,fun l hl=>by rw [I.list_inj hl hqx];exact hx,fun l hl=>by rw [I.list_inj hl hqy];exact hy⟩,⟨z'',?_,⟨u,u2,?_⟩,?_,?_⟩,fun c hcm=>?_⟩
    · exact (sb.2 _ D.TIz).trans (hk _ _ D.TIz D.TITO D.TIi1 D.TIi2 hTI)
    · exact (sb.2 _ D.TOz).trans TO'
    · exact h1'.at fun o q=>(sb.2 _ D.i1z).trans q
    · exact h2'.at fun o q=>(sb.2 _ D.i2z).trans q
    · have hlt:c < s.heap.objs.size:=by
        have e':c=z∨c=TI∨c=TO∨c=i1∨c=i2:=by simpa using hcm
        rcases e' with q | q | q | q | q
        · rw [q];exact hzl
        · rw [q];exact Heap.lt_size hTI
        · rw [q];exact Heap.lt_size hTO
        · rw [q];obtain ⟨_,e1,_⟩:=h1;exact Heap.lt_size e1
        · rw [q];obtain ⟨_,e2,_⟩:=h2;exact Heap.lt_size e2
      rw [upd_ne (Nat.ne_of_lt hlt)]
      exact (hf c hcm).1
  done:=by
    intro X hP hw hK hc i pins s σ H E I hf st hg
    subst hP hw hK
    obtain ⟨hz,hTI,⟨x0,y0,hTO⟩,h1,h2⟩:=st
    obtain ⟨xs,ys,hqx,hqy,hend⟩:=hg
    obtain ⟨its,rv,p,_⟩:=I.list hqx
    obtain ⟨its2,rv2,p2,_⟩:=I.list hqy
    have l1:=rv.length
    have l2:=rv2.length
    have he:its.toArray[i]?=none∨its2.toArray[i]?=none:=by
      rcases hend with q | q
      · exact .inl (by simp;omega)
      · exact .inr (by simp;omega)
    exact wpAny_pyNext_zip_end (I.ok.hd hc) D hz hTI hTO h1 h2 p.isList p2.isList he fun h' hk=>⟨rfl,I.turnedL (t':=s.toks) (ch:=[z,TI,TO,i1,i2]) (fun c o hb q =>
      hk c o (fun q'=>hb (by simp [q'])) (fun q'=>hb (by simp [q'])) (fun q'=>hb (by simp [q'])) (fun q'=>hb (by simp [q'])) q) hf⟩
  self:=fun A i s Q E st h=>wpAny_pyIter_zip st.1 h
def iZip (K:PySem.W.Frag) (ta:TA):TI:=fun σ H R=>ta σ H fun vs H1=>∃ a b xs ys,vs=[.ref a,.ref b]∧SqL K H1 a xs∧SqL K H1 b ys∧R (Itz K a b) H1
theorem pi_zip {X:Cx} {e e2:Expr} {ta:TA} {p pos tpos:Pos} {elts:List Expr} {kk:Nat} (hg:Gl X "zip") (hm:X.mg "zip"=none) (ha:PA X [e,e2] ta)
    (hs:starEach [e,e2] X.env=(false,eval e X.env)::starEach [e2] X.env:=by rfl) (hpl:(backTo pos (starEach [e2] X.env)).any (·.1)=false:=by rfl) :
    PI X (.Tuple elts kk tpos) (.Call (.Name "zip" p) [e,e2] [] pos) (iZip X.K ta):=by
  intro pins s σ H R I h
  refine Call_ (ld_blt I hg hm boot_zip5 (PyProof.Rows.callWith_type1 (thn (ha pos pins s σ H _ I h) fun us s1 ⟨vs,H1,I1,r1,q1⟩=>?_) hs hpl))
  obtain ⟨a,b,xs,ys,ex,hqx,hqy,q⟩:=q1
  subst ex
  cases r1 with
  | cons r rr =>
    cases rr with
    | cons r' rr =>
      cases rr
      cases r
      cases r'
      obtain ⟨its,rv,p1,_⟩:=I1.list hqx
      obtain ⟨its2,rv2,p2,_⟩:=I1.list hqy
      have la:a < s1.heap.objs.size:=p1.lt
      have lb:b < s1.heap.objs.size:=p2.lt
      refine call_zip_2 p1.isList p2.isList fun h' hz hTI hTO h1 h2 hsz hk=>wpAny_pyIter_zip hz ?_
      have I2:Inv X pins σ H1 { s1 with heap:=h' }:=I1.kept (t':=s1.toks) hk
      refine ⟨s1.heap.objs.size + 4,[s1.heap.objs.size + 4,s1.heap.objs.size + 2,s1.heap.objs.size + 3,s1.heap.objs.size,s1.heap.objs.size + 1],_,_,H1,rfl,I2,turn_zip (PySem.W.ktu_apart s1.heap.objs.size a b la lb),⟨hz,hTI,⟨_,_,hTO⟩,h1,h2⟩,fun c hcm=>?_,q⟩
      have e':c=s1.heap.objs.size + 4∨c=s1.heap.objs.size + 2∨c=s1.heap.objs.size + 3∨c=s1.heap.objs.size∨c=s1.heap.objs.size + 1:=by simpa using hcm
      have hle:s1.heap.objs.size≤c:=by
        rcases e' with z | z | z | z | z
        · rw [z];exact Nat.le_add_right _ _
        · rw [z];exact Nat.le_add_right _ _
        · rw [z];exact Nat.le_add_right _ _
        · rw [z];exact Nat.le_refl _
        · rw [z];exact Nat.le_add_right _ _
      exact I1.fpOk hle (I1.hok.fresh hle)
end L2
section
namespace Bits
open PySem PyProof.Rows
end Bits
end
section
namespace TL
open PySem PySem.Builtin PySem.Builtin.Str PySem.StrLaws
end TL
end
namespace L2
open PySem PySem.Spec PyProof.Rows
section
variable {X:Cx} {pins:List (Addr × Obj)} {σ:St} {H:Hp} {s:Shared} {Q:VK}
end
section
variable {X:Cx}
end
section
variable {X:Cx} {o e:Expr} {to te:TE}
end
end L2
namespace L2
open PySem PySem.Spec PyProof.Rows
section
variable {X:Cx}
end
end L2
namespace Att
open PySem PySem.W PySem.Calls PyProof.Rows
section
variable {prog:Program} {w:World} {A:Around} {E:Value→Shared→Prop} {s:Shared} {K:Frag}
end
end Att
namespace L2
open PySem PySem.Spec PyProof.Rows
end L2
namespace L2
open PySem PySem.Spec PyProof.Rows
end L2
namespace L2
open PySem PySem.Spec PyProof.Rows
def inClass (s:Stmt) (j:Nat):Stmt:=match s with
  | .ClassDef _ _ _ body _ _ _ _ _ _ _=>body.getD j (.Pass ⟨0,0,0,0⟩)
  | _=>.Pass ⟨0,0,0,0⟩
def defArgs (s:Stmt):Arguments:=match s with
  | .FunctionDef _ a _ _ _ _ _ _ _ _=>a
  | _=>{ posonlyargs:=[],args:=[],vararg:=none,kwonlyargs:=[],kw_defaults:=[],kwarg:=none,defaults:=[] }
def defBody (s:Stmt):List Stmt:=match s with
  | .FunctionDef _ _ b _ _ _ _ _ _ _=>b
  | _=>[]
def defScope (s:Stmt):Scope:=match s with
  | .FunctionDef _ _ _ _ _ _ sc _ _ _=>sc
  | _=>{ kind:=.function,names:=[],isGenerator:=false,isCoroutine:=false }
abbrev CX0:CXT:=fun _ _ _ _ _ _=>False
abbrev E0:XK:=fun _ _ _=>False
theorem pass0 {X:Cx}:Passes CX0 X E0:=fun _ _ _ _ _ _ _ h=>h.elim
structure Fun (K:PySem.W.Frag) (x qual:Str) (st:Stmt) (f:Addr) (fd:FuncData):Prop where
  ex:∃ (oc:Value) (od:Option Addr) (kV doc pm:Value) (an:Option Addr) (cdv ct:Value) (osl:Array (Option Value)),
    fd=PySem.W.fnOf x qual (defArgs st) (defBody st) (defScope st) .none kV doc pm an cdv ct∧K.lookup f=some ⟨oc,od,.func fd,osl⟩∧PySem.W.codeIn K cdv qual=true
  kp:PySem.W.keepIn K (.ref f)=true
section
variable {P:Program} {w:World} {K:PySem.W.Frag} {mg:Str→Option Value} {base:Heap}
theorem Fun.ok {x qual:Str} {st:Stmt} {f:Addr} {fd:FuncData} {N ps:List Str} {k:Nat} {sp:Sp} (F:Fun K x qual st f fd) (S:FnScope N ps (defScope st)) (len:∀ vs H Q E,sp vs H Q E→vs.length=ps.length)
    (hbody:∀ (cdv:Value) (A:Around) (outer:List Env) (s:Shared) (H:Hp) (vs:List V) (Q:VK) (E:XK),Room k (A.deeper (envOfC qual (defScope st) s.heap.objs.size f cdv))→sp vs H Q E →
      ∃ t,PSs (cxOf CX0 P w K mg base N qual (defScope st) f cdv A outer s H E).nox (defBody st) t∧t { nx:=fun _ H'=>Q .non H',rt:=Q } (start N vs) H):FnOk P w K mg base CX0 (k + 1) f fd ps sp:=by
  obtain ⟨oc,od,kV,doc,pm,an,cdv,ct,osl,rfl,lk,hcd⟩:=F.ex
  refine fn_of lk hcd S len fun A outer s H vs Q E hr hsp=>?_
  obtain ⟨t,h,q⟩:=hbody cdv A outer s H vs Q E hr hsp
  exact ⟨t,h.nox,q⟩
theorem Fun.binds {x qual:Str} {st:Stmt} {f:Addr} {fd:FuncData} {ps:List Str} (F:Fun K x qual st f fd)
    (h:∀ (kV doc pm:Value) (an:Option Addr) (cdv ct:Value) (us:List Value),us.length=ps.length→bindArgs (PySem.W.fnOf x qual (defArgs st) (defBody st) (defScope st) .none kV doc pm an cdv ct) ⟨us,[]⟩=pure (ps.zip us)):Binds K fd ps []:=by
  obtain ⟨oc,od,kV,doc,pm,an,cdv,ct,osl,rfl,lk,hcd⟩:=F.ex
  exact .all (h kV doc pm an cdv ct)
theorem fun_mk {x qual:Str} {st:Stmt} {f:Addr} {oc:Value} {od an:Option Addr} {osl:Array (Option Value)} {kV doc pm cdv ct:Value} (l:K.lookup f=some ⟨oc,od,.func (PySem.W.fnOf x qual (defArgs st) (defBody st) (defScope st) .none kV doc pm an cdv ct),osl⟩)
    (c:PySem.W.codeIn K cdv qual=true) (k:PySem.W.keepIn K (.ref f)=true):Fun K x qual st f (PySem.W.fnOf x qual (defArgs st) (defBody st) (defScope st) .none kV doc pm an cdv ct):=⟨⟨oc,od,kV,doc,pm,an,cdv,ct,osl,rfl,l,c⟩,k⟩
end
theorem small1000 {n:Nat} (h:n≤1000):n < sizeLine:=Nat.lt_of_le_of_lt h (by decide)
section
variable {X:Cx}
theorem pv (i:Nat) {x:Str} {pos:Pos} (hN:X.N[i]?=some x:=by rfl) (hv:Vis X.env.scope x:=by first | exact Or.inl rfl | exact Or.inr (Or.inl rfl) | exact Or.inr (Or.inr rfl)) (hd:(x == ("__debug__":Str))=false:=by decide)
    (hcd:(x == ("__classdict__":Str))=false:=by decide):PE X (.Name x pos) (tVar i):=pe_var hN hv hd hcd
end
theorem iteF {A B:Prop} (h:B):if false=true then A else B:=by
  rw [if_neg Bool.false_ne_true]
  exact h
theorem iteT {A B:Prop} (h:A):if true=true then A else B:=by
  rw [if_pos rfl]
  exact h
def Same (H H':Hp):Prop:=∀ b o,H b=some o→H' b=some o
theorem Same.refl (H:Hp):Same H H:=fun _ _ h=>h
theorem Same.trans {H H1 H2:Hp} (a:Same H H1) (b:Same H1 H2):Same H H2:=fun c o h=>b c o (a c o h)
theorem Same.free {H H':Hp} (e:Same H H') {l:Addr} (h:H' l=Option.none):H l=Option.none:=by
  cases q:H l with
  | none=>rfl
  | some o =>
    rw [e l o q] at h
    cases h
theorem Same.seq {K:PySem.W.Frag} {H H':Hp} {a:Addr} {xs:List V} (e:Same H H') (h:SqL K H a xs):SqL K H' a xs:=by
  rcases h with (h | ⟨o,h⟩) | h
  · exact .inl (.inl (e _ _ h))
  · exact .inl (.inr ⟨o,e _ _ h⟩)
  · exact .inr h
section
variable {κ:Type} [DecidableEq κ]
end
theorem at_of {xs:List V} {z:Int} {j:Nat} {v:V} (e:z=(j:Int)) (h:xs[j]?=some v):atI xs z=some v:=by
  rw [e]
  exact atI_nat h
theorem nd_ix {α:Type} {l:List α} (hN:l.Nodup) {i j:Nat} {x:α} (a:l[i]?=some x) (b:l[j]?=some x):i=j:=by
  obtain ⟨h1,e1⟩:=List.getElem?_eq_some_iff.mp a
  obtain ⟨h2,e2⟩:=List.getElem?_eq_some_iff.mp b
  exact (List.getElem_inj hN).mp (e1.trans e2.symm)
end L2
section
set_option Elab.async false
set_option linter.all false
set_option maxRecDepth 100000
set_option maxHeartbeats 2000000
namespace L2
open PySem PySem.Spec PyProof.Rows
open PySem.W (WData Codec OpenSpec Well WellAll ReadsW ReadsAllW)
mutual
inductive Dw (K:PySem.W.Frag) (H:Hp):V→WData→Prop
  | non:Dw K H .non .none
  | bl (b:Bool):Dw K H (.bl b) (.bool b)
  | int (i:Int):Dw K H (.int i) (.int i)
  | str (x:Str):Dw K H (.str x) (.str x)
  | byt (b:Array UInt8):Dw K H (.byt b) (.bytes b.toList)
  | lst {a:Addr} {xs:List V} {ds:List WData}:SqL K H a xs→DwAll K H xs ds→Dw K H (.ref a) (.list ds)
  | tup {a:Addr} {xs:List V} {ds:List WData}:SqT K H a xs→DwAll K H xs ds→Dw K H (.ref a) (.tuple ds)
inductive DwAll (K:PySem.W.Frag) (H:Hp):List V→List WData→Prop
  | nil:DwAll K H [] []
  | cons {v:V} {vs:List V} {d:WData} {ds:List WData}:Dw K H v d→DwAll K H vs ds→DwAll K H (v::vs) (d::ds)
end
theorem dw_ints {K:PySem.W.Frag} {H:Hp}:∀ ns:List Int,DwAll K H (ns.map V.int) (ns.map WData.int)
  | []=>.nil
  | n::r=>.cons (.int n) (dw_ints r)
theorem ints_dw {K:PySem.W.Frag} {H:Hp}:∀ (ns:List Int) (xs:List V),DwAll K H xs (ns.map WData.int)→xs=ns.map V.int
  | [],xs,h=>by
    cases h
    rfl
  | n::r,xs,h=>by
    cases h with
    | cons h1 h2 =>
      cases h1
      rw [ints_dw r _ h2] <;> rfl
section
variable {P:Program} {w:World} {K:PySem.W.Frag} {H:Hp} {h:Heap} {R:PySem.W.WRecords} {cl:Str→Option Addr}
theorem sqL_at {a:Addr} {xs:List V} (hok:HOk P w H h) (KX:K.In h) (q:SqL K H a xs):∃ (its:List Value) (o:Obj) (n:Nat),Vals xs its∧h.get? a=some o∧o.cls=.type "list"∧o.data=.seq its.toArray n:=by
  rcases q with q | ⟨o,its,n,e,hc,_,hd,_,hv⟩
  · obtain ⟨_,its,n,hv,e⟩:=(show ObjOk P w H h a (.lst xs) from q.ok hok)
    exact ⟨its,_,n,hv,e,rfl,rfl⟩
  · exact ⟨its.toList,o,n,hv,KX _ _ e,hc,by simp [hd]⟩
theorem sqT_at {a:Addr} {xs:List V} (hok:HOk P w H h) (KX:K.In h) (q:SqT K H a xs):∃ (its:List Value) (o:Obj) (n:Nat),Vals xs its∧h.get? a=some o∧o.cls=.type "tuple"∧o.data=.seq its.toArray n:=by
  rcases q with q | ⟨o,its,n,e,hc,hd,_,hv⟩
  · obtain ⟨_,its,hv,o,e,hc,n,hd⟩:=(show ObjOk P w H h a (.tup xs) from q.ok hok)
    exact ⟨its,o,n,hv,e,hc,hd⟩
  · exact ⟨its.toList,o,n,hv,KX _ _ e,hc,by simp [hd]⟩
mutual
theorem Dw.reads (hok:HOk P w H h) (KX:K.In h):∀ (d:WData) (v:V) (u:Value),Dw K H v d→RelV v u→∃ as,ReadsW R cl h u d as
  | .none,_,_,x,r=>by
    cases x
    cases r
    exact ⟨_,ReadsW.none⟩
  | .bool b,_,_,x,r=>by
    cases x
    cases r
    exact ⟨_,ReadsW.bool b⟩
  | .int i,_,_,x,r=>by
    cases x
    obtain ⟨t,rfl⟩:=r
    exact ⟨_,ReadsW.int i t⟩
  | .str s,_,_,x,r=>by
    cases x
    obtain ⟨t,rfl⟩:=r
    exact ⟨_,ReadsW.str s t⟩
  | .bytes b,_,_,x,r=>by
    cases x
    obtain ⟨t,rfl⟩:=r
    exact ⟨_,ReadsW.bytes _ t⟩
  | .list ds,_,_,x,r=>by
    cases x with
    | lst hs ha =>
      cases r
      obtain ⟨its,o,n,rv,ho,hc,hd⟩:=sqL_at hok KX hs
      obtain ⟨as,hr⟩:=Dw.readsAll hok KX ds _ its ha rv
      exact ⟨_,ReadsW.list ho hc hd hr⟩
  | .tuple ds,_,_,x,r=>by
    cases x with
    | tup hs ha =>
      cases r
      obtain ⟨its,o,n,rv,ho,hc,hd⟩:=sqT_at hok KX hs
      obtain ⟨as,hr⟩:=Dw.readsAll hok KX ds _ its ha rv
      exact ⟨_,ReadsW.tuple ho hc hd hr⟩
  | .float _,_,_,x,_=>by cases x
  | .dict _,_,_,x,_=>by cases x
  | .bytearray _,_,_,x,_=>by cases x
  | .set _,_,_,x,_=>by cases x
  | .frozenset _,_,_,x,_=>by cases x
  | .obj _ _,_,_,x,_=>by cases x
theorem Dw.readsAll (hok:HOk P w H h) (KX:K.In h):∀ (ds:List WData) (vs:List V) (us:List Value),DwAll K H vs ds→Vals vs us→∃ as,ReadsAllW R cl h us ds as
  | [],_,_,x,r=>by
    cases x
    cases r
    exact ⟨_,ReadsAllW.nil⟩
  | d::ds,_,_,x,r=>by
    cases x with
    | cons h1 h2 =>
      cases r with
      | cons r1 r2 =>
        obtain ⟨as,q1⟩:=Dw.reads hok KX d _ _ h1 r1
        obtain ⟨bs,q2⟩:=Dw.readsAll hok KX ds _ _ h2 r2
        exact ⟨_,ReadsAllW.cons q1 q2⟩
end
end
mutual
def plW:WData→Bool
  | .none=>true
  | .bool _=>true
  | .int _=>true
  | .str _=>true
  | .bytes _=>true
  | .list xs=>plWs xs
  | .tuple xs=>plWs xs
  | _=>false
def plWs:List WData→Bool
  | []=>true
  | x::r=>plW x && plWs r
end
theorem plWs_map {α:Type} {f:α→WData} (h:∀ a,plW (f a)=true):∀ l:List α,plWs (l.map f)=true
  | []=>rfl
  | x::r=>by
    show (plW (f x) && plWs (r.map f))=true
    rw [h x,plWs_map h r] <;> rfl
theorem pl_enc:∀ (c:Codec) (a:c.denote),plW (c.enc a)=true
  | .unit,_=>rfl
  | .bool,_=>rfl
  | .int _ _,_=>rfl
  | .nat _ _,_=>rfl
  | .u8,_=>rfl
  | .bytes _ _,_=>rfl
  | .text _ _ _ _,_=>rfl
  | .list _ _ c,a=>plWs_map (fun x=>pl_enc c x) a
  | .pair c d,a=>by
    show (plW (c.enc a.1) && (plW (d.enc a.2) && true))=true
    rw [pl_enc c a.1,pl_enc d a.2] <;> rfl
  | .triple c d e,a=>by
    show (plW (c.enc a.1) && (plW (d.enc a.2.1) && (plW (e.enc a.2.2) && true)))=true
    rw [pl_enc c a.1,pl_enc d a.2.1,pl_enc e a.2.2] <;> rfl
  | .option c,none=>rfl
  | .option c,some x=>pl_enc c x
theorem pl_encAll:∀ (cs:List Codec) (a:Codec.denoteAll cs),plWs (Codec.encAll cs a)=true
  | [],_=>rfl
  | c::cs,a=>by
    show (plW (c.enc a.1) && plWs (Codec.encAll cs a.2))=true
    rw [pl_enc c a.1,pl_encAll cs a.2] <;> rfl
theorem weight_mem:∀ {xs:List WData} {d:WData},d∈xs→d.weight≤WData.weightAll xs
  | [],d,h=>absurd h (by simp)
  | x::r,d,h=>by
    show d.weight≤x.weight + 1 + WData.weightAll r
    rcases List.mem_cons.mp h with e | m
    · rw [e]
      omega
    · have z:=weight_mem m
      omega
def toV:Value→V
  | .none=>.non
  | .bool b=>.bl b
  | .int i _=>.int i
  | .str x _=>.str x
  | .bytes b _=>.byt b
  | .ref a=>.ref a
  | _=>.non
def OkU (A:List Addr):Value→Prop
  | .none=>True
  | .bool _=>True
  | .int _ _=>True
  | .str _ _=>True
  | .bytes _ _=>True
  | .ref a=>a∈A
  | _=>False
theorem OkU.mono {A B:List Addr} (h:∀ a∈A,a∈B):∀ {u:Value},OkU A u→OkU B u:=fun {u} x=>by
  cases u with
  | ref a=>exact h a x
  | none=>trivial
  | bool b=>trivial
  | int i t=>trivial
  | str s t=>trivial
  | bytes b t=>trivial
  | _=>exact False.elim x
theorem relV_toV {A:List Addr} {u:Value} (x:OkU A u):RelV (toV u) u:=by
  cases u with
  | ref a=>rfl
  | none=>rfl
  | bool b=>rfl
  | int i t=>exact ⟨t,rfl⟩
  | str s t=>exact ⟨t,rfl⟩
  | bytes b t=>exact ⟨t,rfl⟩
  | _=>exact False.elim x
theorem vals_toV {A:List Addr}:∀ {vs:List Value},(∀ u∈vs,OkU A u)→Vals (vs.map toV) vs
  | [],_=>.nil
  | u::r,h=>.cons (relV_toV (h u (List.mem_cons_self ..))) (vals_toV fun x hx=>h x (List.mem_cons_of_mem _ hx))
def ArgOb (h:Heap) (A:List Addr) (a:Addr):Prop:=∃ vs:List Value,vs.length≤sizeLine∧(∀ u∈vs,OkU A u) ∧
  (h.get? a=some { cls:=.type "list",data:=.seq vs.toArray }∨h.get? a=some { cls:=.type "tuple",data:=.seq vs.toArray })
theorem ArgOb.mono {h:Heap} {A B:List Addr} {a:Addr} (k:∀ a∈A,a∈B) (x:ArgOb h A a):ArgOb h B a:=by
  obtain ⟨vs,h1,h2,h3⟩:=x
  exact ⟨vs,h1,fun u hu=>(h2 u hu).mono k,h3⟩
theorem wellAll_len {P:Params} {h:Heap}:∀ {vs:List Value} {ds:List WData},WellAll P h vs ds→vs.length=ds.length
  | _,_,.nil=>rfl
  | _,_,.cons _ b=>by
    show _ + 1=_ + 1
    rw [wellAll_len b]
theorem well_list {P:Params} {h:Heap} {v:Value} {ds:List WData} (x:Well P h v (.list ds)):∃ (a:Addr) (vs:List Value),v=.ref a∧h.get? a=some { cls:=.type "list",data:=.seq vs.toArray }∧WellAll P h vs ds:=by
  cases x with
  | list ho hall=>exact ⟨_,_,rfl,ho,hall⟩
theorem well_tuple {P:Params} {h:Heap} {v:Value} {ds:List WData} (x:Well P h v (.tuple ds)):∃ (a:Addr) (vs:List Value),v=.ref a∧h.get? a=some { cls:=.type "tuple",data:=.seq vs.toArray }∧WellAll P h vs ds:=by
  cases x with
  | tuple ho hall=>exact ⟨_,_,rfl,ho,hall⟩
theorem well_cons {P:Params} {h:Heap} {us:List Value} {d:WData} {ds:List WData} (x:WellAll P h us (d::ds)):∃ (v:Value) (vs:List Value),us=v::vs∧Well P h v d∧WellAll P h vs ds:=by
  cases x with
  | cons a b=>exact ⟨_,_,rfl,a,b⟩
theorem line_of {n:Nat} (h:n≤1048576):n≤sizeLine:=Nat.le_trans h (by decide)
section
variable {P:Params} {h:Heap}
mutual
theorem area_one:∀ (d:WData) (v:Value),Well P h v d→plW d=true→d.weight≤1048576→∃ A:List Addr,OkU A v∧∀ a∈A,ArgOb h A a
  | .none,_,x,_,_=>by
    cases x
    exact ⟨[],trivial,fun a m=>absurd m (by simp)⟩
  | .bool b,_,x,_,_=>by
    cases x
    exact ⟨[],trivial,fun a m=>absurd m (by simp)⟩
  | .int i,_,x,_,_=>by
    cases x
    exact ⟨[],trivial,fun a m=>absurd m (by simp)⟩
  | .str s,_,x,_,_=>by
    cases x
    exact ⟨[],trivial,fun a m=>absurd m (by simp)⟩
  | .bytes b,_,x,_,_=>by
    cases x
    exact ⟨[],trivial,fun a m=>absurd m (by simp)⟩
  | .list ds,_,x,p,z=>by
    obtain ⟨a,vs,rfl,ho,hall⟩:=well_list x
    have z2:WData.weightAll ds≤1048576:=z
    obtain ⟨A,h1,h2⟩:=area_all ds _ hall p fun d hd=>Nat.le_trans (weight_mem hd) z2
    have k:∀ b∈A,b∈a::A:=fun b hb=>List.mem_cons_of_mem _ hb
    refine ⟨a::A,List.mem_cons_self ..,fun b hb=>?_⟩
    rcases List.mem_cons.mp hb with e | m
    · rw [e]
      exact ⟨vs,line_of (by rw [wellAll_len hall];exact Nat.le_trans (PySem.W.length_le_weightAllW ds) z2),fun u hu=>(h1 u hu).mono k,.inl ho⟩
    · exact (h2 b m).mono k
  | .tuple ds,_,x,p,z=>by
    obtain ⟨a,vs,rfl,ho,hall⟩:=well_tuple x
    have z2:WData.weightAll ds≤1048576:=z
    obtain ⟨A,h1,h2⟩:=area_all ds _ hall p fun d hd=>Nat.le_trans (weight_mem hd) z2
    have k:∀ b∈A,b∈a::A:=fun b hb=>List.mem_cons_of_mem _ hb
    refine ⟨a::A,List.mem_cons_self ..,fun b hb=>?_⟩
    rcases List.mem_cons.mp hb with e | m
    · rw [e]
      exact ⟨vs,line_of (by rw [wellAll_len hall];exact Nat.le_trans (PySem.W.length_le_weightAllW ds) z2),fun u hu=>(h1 u hu).mono k,.inr ho⟩
    · exact (h2 b m).mono k
  | .float _,_,_,p,_=>Bool.noConfusion (show false=true from p)
  | .dict _,_,_,p,_=>Bool.noConfusion (show false=true from p)
  | .bytearray _,_,_,p,_=>Bool.noConfusion (show false=true from p)
  | .set _,_,_,p,_=>Bool.noConfusion (show false=true from p)
  | .frozenset _,_,_,p,_=>Bool.noConfusion (show false=true from p)
  | .obj _ _,_,_,p,_=>Bool.noConfusion (show false=true from p)
theorem area_all:∀ (ds:List WData) (vs:List Value),WellAll P h vs ds→plWs ds=true→(∀ d∈ds,d.weight≤1048576)→∃ A:List Addr,(∀ u∈vs,OkU A u)∧∀ a∈A,ArgOb h A a
  | [],_,x,_,_=>by
    cases x
    exact ⟨[],fun u m=>absurd m (by simp),fun a m=>absurd m (by simp)⟩
  | d::ds,_,x,p,z=>by
    obtain ⟨v,vs,rfl,x1,x2⟩:=well_cons x
    have q:plW d=true∧plWs ds=true:=Bool.and_eq_true_iff.mp p
    obtain ⟨A,a1,a2⟩:=area_one d v x1 q.1 (z d (List.mem_cons_self ..))
    obtain ⟨B,b1,b2⟩:=area_all ds vs x2 q.2 fun e he=>z e (List.mem_cons_of_mem _ he)
    have kA:∀ b∈A,b∈A++B:=fun b hb=>List.mem_append.mpr (.inl hb)
    have kB:∀ b∈B,b∈A++B:=fun b hb=>List.mem_append.mpr (.inr hb)
    refine ⟨A++B,fun u hu=>?_,fun b hb=>?_⟩
    · rcases List.mem_cons.mp hu with e | m
      · rw [e]
        exact a1.mono kA
      · exact (b1 u m).mono kB
    · rcases List.mem_append.mp hb with m | m
      · exact (a2 b m).mono kA
      · exact (b2 b m).mono kB
end
end
def hoOf (o:Obj):Option HO:=match o.data with
  | .seq vs _=>if (o.cls == Value.type "list")=true then some (.frz o (.lst (vs.toList.map toV))) else some (.frz o (.tup (vs.toList.map toV)))
  | _=>none
def argH (K:PySem.W.Frag) (h:Heap) (A:List Addr):Hp:=fun b=>if b∈A then (if (K.lookup b).isNone=true then (h.get? b).bind hoOf else none) else none
def OnlyF (H:Hp):Prop:=∀ b,H b=none∨∃ o u,H b=some (.frz o u)
theorem hoOf_lst (vs:List Value):hoOf { cls:=.type "list",data:=.seq vs.toArray }=some (.frz { cls:=.type "list",data:=.seq vs.toArray } (.lst (vs.map toV))):=by
  show (if (Value.type "list" == Value.type "list")=true then some (HO.frz { cls:=.type "list",data:=.seq vs.toArray } (.lst (vs.toArray.toList.map toV))) else some (HO.frz { cls:=.type "list",data:=.seq vs.toArray } (.tup (vs.toArray.toList.map toV))))=_
  rw [if_pos (beq_self_eq_true _)]
theorem hoOf_tup (vs:List Value):hoOf { cls:=.type "tuple",data:=.seq vs.toArray }=some (.frz { cls:=.type "tuple",data:=.seq vs.toArray } (.tup (vs.map toV))):=by
  show (if (Value.type "tuple" == Value.type "list")=true then some (HO.frz { cls:=.type "tuple",data:=.seq vs.toArray } (.lst (vs.toArray.toList.map toV))) else some (HO.frz { cls:=.type "tuple",data:=.seq vs.toArray } (.tup (vs.toArray.toList.map toV))))=_
  rw [if_neg (by decide)]
section
variable {P:Program} {w:World} {K:PySem.W.Frag} {h:Heap} {A:List Addr}
theorem argH_at {b:Addr} {o:Obj} (hb:b∈A) (hk:K.lookup b=none) (e:h.get? b=some o):argH K h A b=hoOf o:=by
  unfold argH
  rw [if_pos hb,hk,if_pos (show (none:Option Obj).isNone=true from rfl),e] <;> rfl
theorem of_argH {b:Addr} {u:HO} (q:argH K h A b=some u):b∈A∧K.lookup b=none:=by
  unfold argH at q
  by_cases hb:b∈A
  · rw [if_pos hb] at q
    cases hk:K.lookup b with
    | none=>exact ⟨hb,rfl⟩
    | some o =>
      rw [hk,if_neg (by simp)] at q
      cases q
  · rw [if_neg hb] at q
    cases q
theorem argH_is (ar:∀ a∈A,ArgOb h A a) {b:Addr} {u:HO} (q:argH K h A b=some u):K.lookup b=none∧∃ vs:List Value,vs.length≤sizeLine∧(∀ u∈vs,OkU A u) ∧
    ((h.get? b=some { cls:=.type "list",data:=.seq vs.toArray }∧u=.frz { cls:=.type "list",data:=.seq vs.toArray } (.lst (vs.map toV))) ∨
     (h.get? b=some { cls:=.type "tuple",data:=.seq vs.toArray }∧u=.frz { cls:=.type "tuple",data:=.seq vs.toArray } (.tup (vs.map toV)))):=by
  obtain ⟨hb,hk⟩:=of_argH q
  obtain ⟨vs,h1,h2,h3⟩:=ar b hb
  refine ⟨hk,vs,h1,h2,?_⟩
  rcases h3 with e | e
  · rw [argH_at hb hk e,hoOf_lst] at q
    exact .inl ⟨e,(Option.some.inj q).symm⟩
  · rw [argH_at hb hk e,hoOf_tup] at q
    exact .inr ⟨e,(Option.some.inj q).symm⟩
theorem argH_only (ar:∀ a∈A,ArgOb h A a):OnlyF (argH K h A):=fun b=>by
  cases q:argH K h A b with
  | none=>exact .inl rfl
  | some u =>
    obtain ⟨_,vs,_,_,⟨_,e⟩ | ⟨_,e⟩⟩:=argH_is ar q
    · exact .inr ⟨_,_,by rw [e]⟩
    · exact .inr ⟨_,_,by rw [e]⟩
theorem argH_ok (ar:∀ a∈A,ArgOb h A a):HOk P w (argH K h A) h:=fun b u q=>by
  obtain ⟨_,vs,h1,h2,⟨e,rfl⟩ | ⟨e,rfl⟩⟩:=argH_is ar q
  · exact ⟨e,by rw [List.length_map];exact h1,vs,_,vals_toV h2,e⟩
  · exact ⟨e,by rw [List.length_map];exact h1,vs,vals_toV h2,_,e,rfl,_,rfl⟩
theorem seq_inj {c c':Value} {vs us:List Value} (e:(some { cls:=c,data:=.seq vs.toArray }:Option Obj)=some { cls:=c',data:=.seq us.toArray }):c=c'∧vs=us:=by
  have e1:=Option.some.inj e
  have e2:c=c':=congrArg Obj.cls e1
  have e3:Data.seq vs.toArray=Data.seq us.toArray:=congrArg Obj.data e1
  injection e3 with e4
  refine ⟨e2,?_⟩
  have e5:=congrArg Array.toList e4
  simpa using e5
theorem argL (KX:K.In h) (ar:∀ a∈A,ArgOb h A a) {a:Addr} {vs:List Value} (ha:a∈A) (e:h.get? a=some { cls:=.type "list",data:=.seq vs.toArray }):(∀ u∈vs,OkU A u)∧SqL K (argH K h A) a (vs.map toV):=by
  obtain ⟨us,h1,h2,h3⟩:=ar a ha
  have hu:us=vs:=by
    rcases h3 with q | q
    · rw [e] at q
      exact (seq_inj q).2.symm
    · rw [e] at q
      exact absurd (Value.type.inj (seq_inj q).1) (by decide)
  subst hu
  refine ⟨h2,?_⟩
  cases hk:K.lookup a with
  | none=>exact .inl (.inr ⟨_,by rw [argH_at ha hk e,hoOf_lst]⟩)
  | some o =>
    have e2:=KX a o hk
    rw [e] at e2
    obtain rfl:=Option.some.inj e2
    exact .inr ⟨_,us.toArray,_,hk,rfl,rfl,rfl,by rw [List.size_toArray];exact h1,by simpa using vals_toV h2⟩
theorem argT (KX:K.In h) (ar:∀ a∈A,ArgOb h A a) {a:Addr} {vs:List Value} (ha:a∈A) (e:h.get? a=some { cls:=.type "tuple",data:=.seq vs.toArray }):(∀ u∈vs,OkU A u)∧SqT K (argH K h A) a (vs.map toV):=by
  obtain ⟨us,h1,h2,h3⟩:=ar a ha
  have hu:us=vs:=by
    rcases h3 with q | q
    · rw [e] at q
      exact absurd (Value.type.inj (seq_inj q).1) (by decide)
    · rw [e] at q
      exact (seq_inj q).2.symm
  subst hu
  refine ⟨h2,?_⟩
  cases hk:K.lookup a with
  | none=>exact .inl (.inr ⟨_,by rw [argH_at ha hk e,hoOf_tup]⟩)
  | some o =>
    have e2:=KX a o hk
    rw [e] at e2
    obtain rfl:=Option.some.inj e2
    exact .inr ⟨_,us.toArray,_,hk,rfl,rfl,by rw [List.size_toArray];exact h1,by simpa using vals_toV h2⟩
mutual
theorem dw_one {Pm:Params} (KX:K.In h) (ar:∀ a∈A,ArgOb h A a):∀ (d:WData) (v:Value),Well Pm h v d→plW d=true→OkU A v→Dw K (argH K h A) (toV v) d
  | .none,_,x,_,_=>by
    cases x
    exact .non
  | .bool b,_,x,_,_=>by
    cases x
    exact .bl b
  | .int i,_,x,_,_=>by
    cases x
    exact .int i
  | .str s,_,x,_,_=>by
    cases x
    exact .str s
  | .bytes b,_,x,_,_=>by
    cases x
    have z:=Dw.byt (K:=K) (H:=argH K h A) b.toArray
    exact z
  | .list ds,_,x,p,hu=>by
    obtain ⟨a,vs,rfl,ho,hall⟩:=well_list x
    obtain ⟨h2,hs⟩:=argL KX ar hu ho
    exact .lst hs (dw_all KX ar ds _ hall p h2)
  | .tuple ds,_,x,p,hu=>by
    obtain ⟨a,vs,rfl,ho,hall⟩:=well_tuple x
    obtain ⟨h2,hs⟩:=argT KX ar hu ho
    exact .tup hs (dw_all KX ar ds _ hall p h2)
  | .float _,_,_,p,_=>Bool.noConfusion (show false=true from p)
  | .dict _,_,_,p,_=>Bool.noConfusion (show false=true from p)
  | .bytearray _,_,_,p,_=>Bool.noConfusion (show false=true from p)
  | .set _,_,_,p,_=>Bool.noConfusion (show false=true from p)
  | .frozenset _,_,_,p,_=>Bool.noConfusion (show false=true from p)
  | .obj _ _,_,_,p,_=>Bool.noConfusion (show false=true from p)
theorem dw_all {Pm:Params} (KX:K.In h) (ar:∀ a∈A,ArgOb h A a):∀ (ds:List WData) (vs:List Value),WellAll Pm h vs ds→plWs ds=true→(∀ u∈vs,OkU A u)→DwAll K (argH K h A) (vs.map toV) ds
  | [],_,x,_,_=>by
    cases x
    exact .nil
  | d::ds,_,x,p,hu=>by
    obtain ⟨v,vs,rfl,x1,x2⟩:=well_cons x
    have q:plW d=true∧plWs ds=true:=Bool.and_eq_true_iff.mp p
    exact .cons (dw_one KX ar d v x1 q.1 (hu _ (List.mem_cons_self ..))) (dw_all KX ar ds vs x2 q.2 fun u m=>hu u (List.mem_cons_of_mem _ m))
end
end
theorem spec_call {P:Program} {w:World} {K:PySem.W.Frag} {mg mb:Str→Option Value} {CX:CXT} {k:Nat} {fa:Addr} {fd:FuncData} {ps:List Str} {sp:Sp} {s₁:Shared} {vals:List Value} {ds:List WData} {R:PySem.W.WRecords} {cl:Str→Option Addr} {d0:WData}
    (KX:K.In s₁.heap) (hns:s₁.heap.Ns mainGlobals mg) (hb:s₁.heap.Ns builtinsNs mb) (hbb:∀ x:Str,x≠"__name__"→mb x=bootBuiltins x) (hlim:s₁.heap.NoLimit) (hg:s₁.gens=#[])
    (hwl:WellAll w.params s₁.heap vals ds) (hpl:plWs ds=true) (hwt:∀ d∈ds,d.weight≤1048576) (hr:Room k callerA)
    (F:∀ base:Heap,K.In base→base.Ns mainGlobals mg→FnOk P w K mg base CX k fa fd ps sp) (hbind:∀ (s:Shared) (us:List Value),us.length=ps.length→BindsTo s fd ⟨us,[]⟩ (ps.zip us)) (hlen:ds.length=ps.length)
    (hsp:∀ (H:Hp) (xs:List V),OnlyF H→DwAll K H xs ds→sp xs H (fun v H'=>Dw K H' v d0) fun _ _ _=>False)
    (hCX:∀ H e s',CX [] H s₁ (fun _ _ _=>False) e s'→False) :
    codeAny (model P w) callerA (.call (.ref fa) ⟨vals,[]⟩) (fun r s'=>∃ u as,r=.ok (.ret u)∧ReadsW R cl s'.heap u d0 as∧OldK s₁.heap s'.heap∧s'.os=s₁.os∧AllBare s'.gens) s₁:=by
  obtain ⟨A,ho,ar⟩:=area_all ds vals hwl hpl hwt
  have hO:OnlyF (argH K s₁.heap A):=argH_only ar
  have hok:HOk P w (argH K s₁.heap A) s₁.heap:=argH_ok ar
  have hS:=dw_all KX ar ds vals hwl hpl ho
  have hV:=vals_toV ho
  have hK:∀ b u,argH K s₁.heap A b=some u→K.lookup b=none:=fun b u q=>(argH_is ar q).1
  have noA:∀ {b:Addr} {o:Obj} {es:Array DictEntry} {ep:Nat},s₁.heap.get? b=some o→o.data=.dict es ep→argH K s₁.heap A b=none:=fun {b o es ep} e d=>by
    cases q:argH K s₁.heap A b with
    | none=>rfl
    | some u =>
      obtain ⟨_,vs,_,_,⟨e2,_⟩ | ⟨e2,_⟩⟩:=argH_is ar q
      · rw [e2] at e
        cases e
        have d':Data.seq vs.toArray _=Data.dict es ep:=d
        cases d'
      · rw [e2] at e
        cases e
        have d':Data.seq vs.toArray _=Data.dict es ep:=d
        cases d'
  generalize argH K s₁.heap A=H at hO hok hS hK noA
  have base_of:∀ {b:Addr} {o:Obj},s₁.heap.get? b=some o→H b=none→(hidT s₁.heap H).get? b=some o:=fun e n=>hidT_get e n
  have nsK:∀ {b:Addr} {m:Str→Option Value},s₁.heap.Ns b m→(hidT s₁.heap H).Ns b m:=fun {b m} ⟨o,es,ep,e,d,r⟩=>⟨o,es,ep,base_of e (noA e d),d,r⟩
  have nK:∀ b o,K.lookup b=some o→H b=none:=fun b o e=>by
    cases q:H b with
    | none=>rfl
    | some u =>
      rw [hK b u q] at e
      cases e
  have hKb:K.In (hidT s₁.heap H):=fun b o e=>base_of (KX b o e) (nK b o e)
  have hM:Mod K mg (hidT s₁.heap H):=⟨hKb,nsK hns,⟨mb,nsK hb,hbb⟩,let ⟨mc,h1,h2⟩:=hlim;⟨mc,nsK h1,h2⟩⟩
  have e0:Env0 P w K mg (hidT s₁.heap H) callerA [] s₁ H:=⟨rfl,hM,fun b o e=>of_hidT e,Nat.le_of_eq (hidT_size _ _),trivial,fun b hb=>absurd (show b∈([]:List Addr) from hb) (by simp),hok,.of_eq hg⟩
  have hl:vals.length=ps.length:=by rw [wellAll_len hwl];exact hlen
  refine codeAny_mono ((F _ hKb (nsK hns)).run callerA [] s₁ H ⟨vals,[]⟩ vals (vals.map toV) _ _ hr e0 (hbind s₁ vals hl) hV (hsp H _ hO hS)) fun r s' x=>?_
  cases r with
  | error e=>exact (hCX H e s' x).elim
  | ok fl =>
    cases fl with
    | next=>exact False.elim x
    | brk=>exact False.elim x
    | cont=>exact False.elim x
    | ret u =>
      obtain ⟨v,H',os,bare,un,hok',r',q⟩:=x
      have kept:∀ b o,s₁.heap.get? b=some o→s'.heap.get? b=some o:=fun b o e=>by
        cases q2:H b with
        | none=>exact un.keep b o e q2 (by intro z;exact absurd (show b∈([]:List Addr) from z) (by simp)) (by simp)
        | some u2 =>
          rcases hO b with z | ⟨ob,u3,z⟩
          · rw [q2] at z
            cases z
          · have z2:=un.frzs b ob _ z
            obtain ⟨e1,_⟩:=hok b _ z
            obtain ⟨e2,_⟩:=hok' b _ z2
            rw [e] at e1
            cases e1
            exact e2
      have KX':K.In s'.heap:=fun b o e=>kept b o (KX b o e)
      obtain ⟨as,hrd⟩:=Dw.reads (R:=R) (cl:=cl) hok' KX' d0 v u q r'
      exact ⟨u,as,rfl,hrd,OldK.of_keep kept,os,bare⟩
theorem layable_weight {ds:List WData} (h:WData.layableAll ds=true):∀ d∈ds,d.weight≤1048576:=fun d hd =>
  (PySem.W.layableW_iff.mp (List.all_eq_true.mp h d hd)).2.2
theorem encAll_len:∀ (cs:List Codec) (a:Codec.denoteAll cs),(Codec.encAll cs a).length=cs.length
  | [],_=>rfl
  | c::cs,a=>by
    show (Codec.encAll cs a.2).length + 1=cs.length + 1
    rw [encAll_len cs a.2]
theorem walk_spec {r:OpenSpec} {k:Nat} {q:Program} {loose:List Str} {XP:(Str→Option Value)→Heap→Prop} {YP:World→Heap→Prop} {d:DefRec} {K:Params→PySem.W.Frag} {CX:World→CXT} {ps:List Str} {sp:World→Sp}
    (hwell:r.wellSaid=true) (hdf:d.params.defaults=[]) (hlen:r.args.length=ps.length) (hr:Room k callerA)
    (hY:∀ (w:World) (h:Heap),YP w h→(K w.params).In h)
    (F:∀ (w:World) (mg:Str→Option Value) (fa:Addr) (h:Heap),YP w h→(K w.params).In h→h.Ns mainGlobals mg→mg d.name=some (.ref fa) →
      ∃ fd:FuncData,(∀ (s:Shared) (us:List Value),us.length=ps.length→BindsTo s fd ⟨us,[]⟩ (ps.zip us)) ∧
        ∀ base:Heap,(K w.params).In base→base.Ns mainGlobals mg→FnOk r.prog w (K w.params) mg base (CX w) k fa fd ps (sp w))
    (hsp:∀ (w:World) (H:Hp) (xs:List V) (a:Codec.denoteAll r.args),OnlyF H→Codec.withinAll r.args a=true→Codec.app r.args r.asked a=true→DwAll (K w.params) H xs (Codec.encAll r.args a) →
      sp w xs H (fun v H'=>Dw (K w.params) H' v (r.ret.enc (Codec.app r.args r.f a))) fun _ _ _=>False)
    (hCX:∀ (w:World) (H:Hp) (s:Shared) (e:Value) (s':Shared),CX w [] H s (fun _ _ _=>False) e s'→False) :
    PySem.W.WalkOS q loose XP YP r d [] (fun f vs=>PySem.call f vs):=by
  intro w s_0 s₁ mg mb G Y fa o pm cd doc dV kV ho hd hcd hD hmg hg args vals as hpre hlay hrd hwl hlo
  obtain ⟨a,e1,e2⟩:=PySem.W.os_pre_some hpre
  obtain ⟨e3,hwi⟩:=Codec.encAll_of_decAll r.args args a e1
  subst e3
  have KX:=hY w _ Y
  obtain ⟨fd,hb,hF⟩:=F w mg fa _ Y KX G.T.g hmg
  refine PySem.W.enter_call (codeAny_mono (spec_call (R:=[]) (cl:=classAt s_0.heap) (d0:=r.ret.enc (Codec.app r.args r.f a)) KX G.T.g G.T.b G.T.builtins G.T.nolimit hg hwl (pl_encAll _ _) (layable_weight hlay) hr hF hb (by rw [encAll_len];exact hlen)
    (fun H xs hO hS=>hsp w H xs a hO hwi e2 hS) fun H e s'=>hCX w H s₁ e s') fun r' s' hq=>?_)
  obtain ⟨u,as',rfl,h1,h2,h3,h4⟩:=hq
  exact ⟨.inl ⟨u,_,as',rfl,fun _=>rfl,h1,(OpenSpec.post_iff hwell hwi _ _).mpr rfl,fun z=>Bool.noConfusion (show false=true from z)⟩,h2,h3,h4⟩
theorem walk_specK {r:OpenSpec} {k:Nat} {q:Program} {loose:List Str} {XP:(Str→Option Value)→Heap→Prop} {YP:World→Heap→Prop} {d:DefRec} {K:Params→PySem.W.Frag} {CX:CXT} {ps:List Str} {sp:PySem.W.Frag→Sp}
    (hwell:r.wellSaid=true) (hdf:d.params.defaults=[]) (hlen:r.args.length=ps.length) (hr:Room k callerA)
    (hY:∀ (w:World) (h:Heap),YP w h→(K w.params).In h)
    (F:∀ (w:World) (mg:Str→Option Value) (fa:Addr) (h:Heap),YP w h→(K w.params).In h→h.Ns mainGlobals mg→mg d.name=some (.ref fa) →
      ∃ fd:FuncData,(∀ (s:Shared) (us:List Value),us.length=ps.length→BindsTo s fd ⟨us,[]⟩ (ps.zip us)) ∧
        ∀ base:Heap,(K w.params).In base→base.Ns mainGlobals mg→FnOk r.prog w (K w.params) mg base CX k fa fd ps (sp (K w.params)))
    (hsp:∀ (K:PySem.W.Frag) (H:Hp) (xs:List V) (a:Codec.denoteAll r.args),OnlyF H→Codec.withinAll r.args a=true→Codec.app r.args r.asked a=true→DwAll K H xs (Codec.encAll r.args a) →
      sp K xs H (fun v H'=>Dw K H' v (r.ret.enc (Codec.app r.args r.f a))) fun _ _ _=>False)
    (hCX:∀ (H:Hp) (s:Shared) (e:Value) (s':Shared),CX [] H s (fun _ _ _=>False) e s'→False) :
    PySem.W.WalkOS q loose XP YP r d [] (fun f vs=>PySem.call f vs) :=
  walk_spec (K:=K) (CX:=fun _=>CX) (sp:=fun w=>sp (K w.params)) hwell hdf hlen hr hY F (fun w H xs a h1 h2 h3 h4=>hsp (K w.params) H xs a h1 h2 h3 h4) fun _ H s e s'=>hCX H s e s'
end L2
end
end
namespace CsS
open PySem PyProof.Rows
class Mp (α:Type) where
 mp:(Keyed→Keyed)→α→α
instance:Mp Nat:=⟨fun _ a=>a⟩
instance:Mp Bool:=⟨fun _ a=>a⟩
instance:Mp Unit:=⟨fun _ a=>a⟩
instance:Mp PUnit:=⟨fun _ a=>a⟩
instance mpOpt {α:Type} [Mp α]:Mp (Option α):=⟨fun F a=>a.map (Mp.mp F)⟩
instance mpProd {α β:Type} [Mp α] [Mp β]:Mp (α × β):=⟨fun F a=>(Mp.mp F a.1,Mp.mp F a.2)⟩
instance (priority:=high) mpKeyed:Mp (Value × Value):=⟨fun F a=>F a⟩
instance (priority:=high) mpArr:Mp (Array (Value × Value)):=⟨fun F a=>a.map F⟩
instance mpStep {α:Type} [Mp α]:Mp (ForInStep α):=⟨fun F a=>match a with
 | .done x=>.done (Mp.mp F x)
 | .yield x=>.yield (Mp.mp F x)⟩
def mapSt (kd2:SortKind) (F:Keyed→Keyed) (st:SortSt):SortSt:=SortSt.mk' kd2 ((arrOf st).map F) (pendingOf st) (gallopOf st) (failedOf st)
structure Two where
 M:Model
 G:Ctx
 s:Shared
 s2:Shared
 F:Keyed→Keyed
 kd:SortKind
 kd2:SortKind
variable {T:Two}
abbrev Two.f (T:Two):SortSt→SortSt:=mapSt T.kd2 T.F
def Sim (T:Two) {α:Type} [Mp α] (m m2:StateT SortSt Sem α):Prop :=
 ∀ (st:SortSt) (R:α→SortSt→Pos→Shared→Prop) (p p2:Pos),kindOf st=T.kd →
  Sem.wp T.M T.G (m2.run (T.f st)) (fun r q s'=>R r.1 r.2 q s') (fun _ _ _=>False) p2 T.s2 →
  Sem.wp T.M T.G (m.run st) (fun r _ s'=>s'=T.s∧kindOf r.2=T.kd∧∃ q,R (Mp.mp T.F r.1) (T.f r.2) q T.s2) (fun _ _ _=>False) p T.s
def SimG (T:Two) (m m2:StateT SortSt Sem SortSt):Prop :=
 ∀ (st:SortSt) (R:SortSt→SortSt→Pos→Shared→Prop) (p p2:Pos),kindOf st=T.kd →
  Sem.wp T.M T.G (m2.run (T.f st)) (fun r q s'=>R r.1 r.2 q s') (fun _ _ _=>False) p2 T.s2 →
  Sem.wp T.M T.G (m.run st) (fun r _ s'=>s'=T.s∧kindOf r.2=T.kd∧∃ q,R (T.f r.1) (T.f r.2) q T.s2) (fun _ _ _=>False) p T.s
section
variable {α β:Type} [Mp α] [Mp β]
theorem Sim.ret {a b:α} (e:b=Mp.mp T.F a):Sim T (pure a) (pure b):=fun st R p p2 hk h=>by
 subst e
 rw [StateT.run_pure] at h ⊢
 rw [Sem.wp_pure'] at h ⊢
 exact ⟨rfl,hk,_,h⟩
theorem Sim.bind {m m2:StateT SortSt Sem α} {k k2:α→StateT SortSt Sem β} (h1:Sim T m m2) (h2:∀ a,Sim T (k a) (k2 (Mp.mp T.F a))):Sim T (m >>= k) (m2 >>= k2):=fun st R p p2 hk h=>by
 rw [StateT.run_bind,Sem.wp_bind'] at h ⊢
 refine Sem.wp_mono _ _ _ (fun r p' s' q=>?_) (fun _ _ _ z=>z) _ _ (h1 st (fun a st' q s'=>Sem.wp T.M T.G ((k2 a).run st') (fun r q s'=>R r.1 r.2 q s') (fun _ _ _=>False) q s') p p2 hk h)
 obtain ⟨rfl,hk',q',hr⟩:=q
 exact h2 r.1 r.2 R p' q' hk' hr
theorem Sim.look {k k2:SortSt→StateT SortSt Sem β} (h2:∀ st,kindOf st=T.kd→Sim T (k st) (k2 (T.f st))):Sim T (get >>= k) (get >>= k2):=fun st R p p2 hk h=>by
 rw [StateT.run_bind,Sem.wp_bind',StateT.run_get,Sem.wp_pure'] at h ⊢
 exact h2 st hk st R p p2 hk h
theorem Sim.chg {g g2:SortSt→SortSt} (h:∀ st,kindOf (g st)=kindOf st∧g2 (T.f st)=T.f (g st)):Sim T (modify g) (modify g2):=fun st R p p2 hk h'=>by
 rw [StateT.run_modify] at h' ⊢
 rw [Sem.wp_pure'] at h' ⊢
 have h'':R PUnit.unit (g2 (T.f st)) p2 T.s2:=h'
 rw [(h st).2] at h''
 exact ⟨rfl,(h st).1.trans hk,p2,h''⟩
theorem Sim.ite {c:Prop} [Decidable c] {a a2 b b2:StateT SortSt Sem α} (h1:c→Sim T a a2) (h2:¬ c→Sim T b b2):Sim T (if c then a else b) (if c then a2 else b2):=by
 split
 ·exact h1 ‹_›
 ·exact h2 ‹_›
theorem Sim.tag (tag:String) {k k2:Unit→StateT SortSt Sem β} (h:Sim T (k ()) (k2 ())):Sim T (liftM (PySem.rule tag) >>= k) (liftM (PySem.rule tag) >>= k2):=fun st R p p2 hk h'=>by
 rw [StateT.run_bind,Sem.wp_bind'] at h' ⊢
 exact h st R p p2 hk h'
theorem Sim.forL {l:List Nat} {c c2:α} {g g2:Nat→α→StateT SortSt Sem (ForInStep α)} (e:c2=Mp.mp T.F c) (h:∀ i c,Sim T (g i c) (g2 i (Mp.mp T.F c))):Sim T (forIn l c g) (forIn l c2 g2):=by
 subst e
 induction l generalizing c with
 | nil=>rw [List.forIn_nil,List.forIn_nil];exact Sim.ret rfl
 | cons x l ih =>
  rw [List.forIn_cons,List.forIn_cons]
  refine Sim.bind (h x c) fun r=>?_
  cases r with
  | done y=>exact Sim.ret rfl
  | yield y=>exact ih
theorem Sim.forR {a b:Nat} {c c2:α} {g g2:Nat→α→StateT SortSt Sem (ForInStep α)} (h:∀ i c,Sim T (g i c) (g2 i (Mp.mp T.F c))) (e:c2=Mp.mp T.F c:=by rfl):Sim T (forIn [a:b] c g) (forIn [a:b] c2 g2):=by
 rw [Std.Legacy.Range.forIn_eq_forIn_range',Std.Legacy.Range.forIn_eq_forIn_range']
 exact Sim.forL e h
end
theorem Sim.no {α:Type} [Mp α] {m:StateT SortSt Sem α} {w:String}:Sim T m (liftM (PySem.unsupported w:Sem α)):=fun st R p p2 hk h=>by
 exfalso
 exact h
theorem Sim.elem (arr:Array Keyed) (i:Nat):Sim T (elem' arr i) (elem' (arr.map T.F) i):=by
 rw [elem'_eq,elem'_eq,Array.getElem?_map]
 cases arr[i]? with
 | none=>exact Sim.no
 | some p=>exact Sim.ret rfl
end CsS
namespace CsS
open PySem PyProof.Rows
def Alike (T:Two):Prop:=∀ (x y:Keyed) (R:Bool→Pos→Shared→Prop) (E:Value→Pos→Shared→Prop) (p p2:Pos),
  Sem.wp T.M T.G (keyLt' T.kd2 (T.F x).1 (T.F y).1) R E p2 T.s2 →
  Sem.wp T.M T.G (keyLt' T.kd x.1 y.1) (fun b _ s'=>s'=T.s∧∃ q,R b q T.s2) (fun _ _ _=>False) p T.s
variable {T:Two}
theorem mp_nat (F:Keyed→Keyed) (n:Nat):Mp.mp F n=n:=rfl
theorem mp_bool (F:Keyed→Keyed) (n:Bool):Mp.mp F n=n:=rfl
theorem mp_unit (F:Keyed→Keyed) (n:Unit):Mp.mp F n=n:=rfl
theorem mp_none {α:Type} [Mp α] (F:Keyed→Keyed):Mp.mp F (none:Option α)=none:=rfl
theorem mp_some {α:Type} [Mp α] (F:Keyed→Keyed) (a:α):Mp.mp F (some a)=some (Mp.mp F a):=rfl
theorem mp_pair {α β:Type} [Mp α] [Mp β] (F:Keyed→Keyed) (a:α) (b:β):Mp.mp F (a,b)=(Mp.mp F a,Mp.mp F b):=rfl
theorem mp_fst {α β:Type} [Mp α] [Mp β] (F:Keyed→Keyed) (c:α × β):(Mp.mp F c).fst=Mp.mp F c.fst:=rfl
theorem mp_snd {α β:Type} [Mp α] [Mp β] (F:Keyed→Keyed) (c:α × β):(Mp.mp F c).snd=Mp.mp F c.snd:=rfl
theorem mp_arr (F:Keyed→Keyed) (a:Array (Value × Value)):Mp.mp F a=a.map F:=rfl
theorem mp_keyed (F:Keyed→Keyed) (a:Value × Value):Mp.mp F a=F a:=rfl
section
variable {α β γ:Type} [Mp α] [Mp β] [Mp γ]
theorem Sim.bindO {m m2:StateT SortSt Sem (Option α)} {k k2:Option α→StateT SortSt Sem β} (h1:Sim T m m2) (hn:Sim T (k none) (k2 none)) (hs:∀ a,Sim T (k (some a)) (k2 (some (Mp.mp T.F a)))):Sim T (m >>= k) (m2 >>= k2) :=
 Sim.bind h1 fun a=>match a with
  | none=>hn
  | some a=>hs a
theorem Sim.bindP {m m2:StateT SortSt Sem (Option α × γ)} {k k2:Option α × γ→StateT SortSt Sem β} (h1:Sim T m m2) (hn:∀ c,Sim T (k (none,c)) (k2 (none,Mp.mp T.F c))) (hs:∀ a c,Sim T (k (some a,c)) (k2 (some (Mp.mp T.F a),Mp.mp T.F c))):Sim T (m >>= k) (m2 >>= k2) :=
 Sim.bind h1 fun a=>match a with
  | (none,c)=>hn c
  | (some a,c)=>hs a c
theorem Sim.loop {a b:Nat} {c c2:Option γ × α} {g g2:Nat→Option γ × α→StateT SortSt Sem (ForInStep (Option γ × α))} {k k2:Option γ × α→StateT SortSt Sem β} (h:∀ i x c,Sim T (g i (x,c)) (g2 i (Mp.mp T.F x,Mp.mp T.F c)))
  (hn:∀ c,Sim T (k (none,c)) (k2 (none,Mp.mp T.F c))) (hs:∀ a c,Sim T (k (some a,c)) (k2 (some (Mp.mp T.F a),Mp.mp T.F c))) (e:c2=Mp.mp T.F c):Sim T (forIn [a:b] c g >>= k) (forIn [a:b] c2 g2 >>= k2) :=
 Sim.bindP (Sim.forR (fun i c=>match c with | (x,c)=>h i x c) e) hn hs
end
theorem run_lift {σ α:Type} (t:Sem α) (st:σ):(liftM t:StateT σ Sem α).run st=(t >>= fun a=>pure (a,st)):=rfl
theorem Sim.lt (hA:Alike T) (x y:Keyed):Sim T (lt' x y) (lt' (T.F x) (T.F y)):=by
 rw [lt'_eq,lt'_eq]
 refine Sim.look fun st hk=>?_
 intro st' R p p2 hk' h
 rw [StateT.run_bind,Sem.wp_bind'] at h ⊢
 have e:kindOf (T.f st)=T.kd2:=rfl
 rw [e] at h
 rw [hk]
 have h1:Sem.wp T.M T.G (liftM (m:=Sem) (n:=StateT SortSt Sem) (keyLt' T.kd2 (T.F x).1 (T.F y).1).attempt |>.run (T.f st')) (fun r q s'=>Sem.wp T.M T.G ((match r.1 with
   | .ok b=>(pure (some b):StateT SortSt Sem (Option Bool))
   | .error e=>do modify (fun s=>SortSt.mk' (kindOf s) (arrOf s) (pendingOf s) (gallopOf s) (some e));pure none).run r.2) (fun r q s'=>R r.1 r.2 q s') (fun _ _ _=>False) q s') (fun _ _ _=>False) p2 T.s2:=h
 rw [run_lift,Sem.wp_bind',Sem.wp_attempt] at h1
 rw [run_lift,Sem.wp_bind',Sem.wp_attempt]
 refine Sem.wp_mono _ _ _ (fun b p' s' q=>?_) (fun _ _ _ z=>z.elim) _ _ (hA x y _ _ p p2 h1)
 obtain ⟨rfl,q',hr⟩:=q
 exact ⟨rfl,hk',q',hr⟩
theorem Sim.ltAt (hA:Alike T) (i j:Nat):Sim T (ltAt' i j) (ltAt' i j):=by
 rw [ltAt'_eq]
 refine Sim.look fun st hk=>?_
 refine Sim.bind (Sim.elem _ _) fun x=>?_
 refine Sim.bind (Sim.elem _ _) fun y=>?_
 exact Sim.lt hA x y
theorem mirror_map (F:Keyed→Keyed) (xs:Array Keyed) (i j d:Nat):mirror (xs.map F) i j d=(mirror xs i j d).map F:=PySem.W.kas_swaps_map F _ _ _ _
theorem bubble_map (F:Keyed→Keyed) (xs:Array Keyed) (i d:Nat):bubble (xs.map F) i d=(bubble xs i d).map F:=PySem.W.kas_swaps_map F _ _ _ _
theorem Sim.reverse (i j:Nat):Sim T (reverseSlice' i j) (reverseSlice' i j):=by
 rw [reverseSlice'_eq]
 refine Sim.chg fun st=>⟨rfl,?_⟩
 show SortSt.mk' _ (mirror ((arrOf st).map T.F) i j _) _ _ _=SortSt.mk' _ ((mirror (arrOf st) i j _).map T.F) _ _ _
 rw [mirror_map]
 rfl
theorem Sim.move (i j:Nat):Sim T (moveDown' i j) (moveDown' i j):=by
 rw [moveDown'_eq]
 refine Sim.chg fun st=>⟨rfl,?_⟩
 show SortSt.mk' _ (bubble ((arrOf st).map T.F) i _) _ _ _=SortSt.mk' _ ((bubble (arrOf st) i _).map T.F) _ _ _
 rw [bubble_map]
 rfl
theorem Sim.count (hA:Alike T) (lo nrem:Nat):Sim T (countRun' lo nrem) (countRun' lo nrem):=by
 rw [countRun'_eq]
 repeat' first
  | with_reducible exact Sim.ret rfl
  | with_reducible (refine Sim.ite (fun _=>?_) (fun _=>?_))
  | with_reducible (refine Sim.tag _ ?_)
  | with_reducible (refine Sim.bindO (Sim.ltAt hA _ _) ?_ fun x=>?_)
  | with_reducible (refine Sim.bind (Sim.reverse _ _) fun x=>?_)
  | ((with_reducible refine Sim.loop (fun i x c=>?_) (fun c=>?_) (fun a c=>?_) ?e);case e=>rfl)
  | (dsimp only [mp_nat,mp_bool,mp_unit,mp_none,mp_some,mp_pair,mp_fst,mp_snd,mp_arr,mp_keyed])
theorem Sim.binary (hA:Alike T) (lo n ok:Nat):Sim T (binarySort' lo n ok) (binarySort' lo n ok):=by
 rw [binarySort'_eq]
 repeat' first
  | with_reducible exact Sim.ret rfl
  | with_reducible (refine Sim.ite (fun _=>?_) (fun _=>?_))
  | with_reducible (refine Sim.bindO (Sim.ltAt hA _ _) ?_ fun x=>?_)
  | with_reducible (refine Sim.bind (Sim.move _ _) fun x=>?_)
  | ((with_reducible refine Sim.loop (fun i x c=>?_) (fun c=>?_) (fun a c=>?_) ?e);case e=>rfl)
  | (dsimp only [mp_nat,mp_bool,mp_unit,mp_none,mp_some,mp_pair,mp_fst,mp_snd,mp_arr,mp_keyed])
 all_goals trace_state
theorem Sim.beyond (hA:Alike T) (left:Bool) (key:Keyed) (arr:Array Keyed) (base i:Nat):Sim T (beyond' left key arr base i) (beyond' left (T.F key) (arr.map T.F) base i):=by
 unfold beyond'
 refine Sim.bind (Sim.elem _ _) fun x=>?_
 refine Sim.ite (fun _=>?_) (fun _=>?_)
 ·exact Sim.lt hA _ _
 ·refine Sim.bind (Sim.lt hA _ _) fun y=>?_
  cases y <;> exact Sim.ret rfl
theorem Sim.gallop (hA:Alike T) (left:Bool) (key:Keyed) (arr:Array Keyed) (base n hint:Nat):Sim T (gallop' left key arr base n hint) (gallop' left (T.F key) (arr.map T.F) base n hint):=by
 rw [gallop'_eq,gallop'_eq]
 repeat' first
  | with_reducible exact Sim.ret rfl
  | with_reducible (refine Sim.ite (fun _=>?_) (fun _=>?_))
  | with_reducible (refine Sim.bindO (Sim.beyond hA _ _ _ _ _) ?_ fun x=>?_)
  | ((with_reducible refine Sim.loop (fun i x c=>?_) (fun c=>?_) (fun a c=>?_) ?e);case e=>rfl)
  | (dsimp only [mp_nat,mp_bool,mp_unit,mp_none,mp_some,mp_pair,mp_fst,mp_snd,mp_arr,mp_keyed])
 all_goals trace_state
end CsS
namespace CsS
open PySem PyProof.Rows
variable {T:Two}
theorem Sim.minG (g:Nat):Sim T (setMinGallop' g) (setMinGallop' g):=by
 rw [setMinGallop'_eq]
 exact Sim.chg fun st=>⟨rfl,rfl⟩
theorem Sim.ret' {α:Type} [Mp α] {a b:α} (e:Mp.mp T.F a=b):Sim T (pure a) (pure b):=Sim.ret e.symm
theorem mp_done {α:Type} [Mp α] (F:Keyed→Keyed) (a:α):Mp.mp F (ForInStep.done a)=ForInStep.done (Mp.mp F a):=rfl
theorem mp_yield {α:Type} [Mp α] (F:Keyed→Keyed) (a:α):Mp.mp F (ForInStep.yield a)=ForInStep.yield (Mp.mp F a):=rfl
theorem Sim.mLo (hA:Alike T) (a b:Array Keyed):Sim T (mergeLo' a b) (mergeLo' (a.map T.F) (b.map T.F)):=by
 rw [mergeLo'_eq,mergeLo'_eq]
 simp only [Array.size_map]
 repeat' first
  | ((with_reducible refine Sim.ret' ?_);(simp only [mp_nat,mp_bool,mp_unit,mp_none,mp_some,mp_pair,mp_fst,mp_snd,mp_arr,mp_keyed,mp_done,mp_yield,Array.map_append,List.map_toArray,List.map_cons,List.map_nil,Array.map_reverse,Array.map_extract,Array.map_push]);done)
  | with_reducible (refine Sim.ite (fun _=>?_) (fun _=>?_))
  | with_reducible (refine Sim.tag _ ?_)
  | with_reducible (refine Sim.bind (Sim.elem _ _) fun x=>?_)
  | with_reducible (refine Sim.bindO (Sim.lt hA _ _) ?_ fun x=>?_)
  | with_reducible (refine Sim.bindO (Sim.gallop hA _ _ _ _ _ _) ?_ fun x=>?_)
  | with_reducible (refine Sim.bind (Sim.minG _) fun x=>?_)
  | with_reducible (refine Sim.look fun st hk=>?_)
  | with_reducible exact Sim.no
  | ((with_reducible refine Sim.loop (fun i x c=>?_) (fun c=>?_) (fun a c=>?_) ?e);case e=>first | rfl | (simp only [mp_nat,mp_bool,mp_unit,mp_none,mp_some,mp_pair,mp_fst,mp_snd,mp_arr,mp_keyed,mp_done,mp_yield,Array.map_append,List.map_toArray,List.map_cons,List.map_nil,Array.map_reverse,Array.map_extract,Array.map_push];done) | (simp only [mp_nat,mp_bool,mp_unit,mp_none,mp_some,mp_pair,mp_fst,mp_snd,mp_arr,mp_keyed,mp_done,mp_yield,Array.map_append,List.map_toArray,List.map_cons,List.map_nil,Array.map_reverse,Array.map_extract,Array.map_push];rfl))
  | (dsimp only [mp_nat,mp_bool,mp_unit,mp_none,mp_some,mp_pair,mp_fst,mp_snd,mp_arr,mp_keyed])
  | with_reducible exact Sim.ret rfl
 all_goals trace_state
theorem Sim.mHi (hA:Alike T) (a b:Array Keyed):Sim T (mergeHi' a b) (mergeHi' (a.map T.F) (b.map T.F)):=by
 rw [mergeHi'_eq,mergeHi'_eq]
 simp only [Array.size_map]
 repeat' first
  | ((with_reducible refine Sim.ret' ?_);(simp only [mp_nat,mp_bool,mp_unit,mp_none,mp_some,mp_pair,mp_fst,mp_snd,mp_arr,mp_keyed,mp_done,mp_yield,Array.map_append,List.map_toArray,List.map_cons,List.map_nil,Array.map_reverse,Array.map_extract,Array.map_push]);done)
  | with_reducible (refine Sim.ite (fun _=>?_) (fun _=>?_))
  | with_reducible (refine Sim.tag _ ?_)
  | with_reducible (refine Sim.bind (Sim.elem _ _) fun x=>?_)
  | with_reducible (refine Sim.bindO (Sim.lt hA _ _) ?_ fun x=>?_)
  | with_reducible (refine Sim.bindO (Sim.gallop hA _ _ _ _ _ _) ?_ fun x=>?_)
  | with_reducible (refine Sim.bind (Sim.minG _) fun x=>?_)
  | with_reducible (refine Sim.look fun st hk=>?_)
  | with_reducible exact Sim.no
  | ((with_reducible refine Sim.loop (fun i x c=>?_) (fun c=>?_) (fun a c=>?_) ?e);case e=>first | rfl | (simp only [mp_nat,mp_bool,mp_unit,mp_none,mp_some,mp_pair,mp_fst,mp_snd,mp_arr,mp_keyed,mp_done,mp_yield,Array.map_append,List.map_toArray,List.map_cons,List.map_nil,Array.map_reverse,Array.map_extract,Array.map_push];done) | (simp only [mp_nat,mp_bool,mp_unit,mp_none,mp_some,mp_pair,mp_fst,mp_snd,mp_arr,mp_keyed,mp_done,mp_yield,Array.map_append,List.map_toArray,List.map_cons,List.map_nil,Array.map_reverse,Array.map_extract,Array.map_push];rfl))
  | (dsimp only [mp_nat,mp_bool,mp_unit,mp_none,mp_some,mp_pair,mp_fst,mp_snd,mp_arr,mp_keyed])
  | with_reducible exact Sim.ret rfl
 all_goals trace_state
end CsS
namespace CsS
open PySem PyProof.Rows
variable {T:Two}
theorem fold_map (F:Keyed→Keyed) (sa:Nat):∀ (l:List (Keyed × Nat)) (a:Array Keyed),(l.map fun x=>(F x.1,x.2)).foldl (fun a x=>a.setIfInBounds (sa + x.2) x.1) (a.map F)=(l.foldl (fun a x=>a.setIfInBounds (sa + x.2) x.1) a).map F
 | [],_=>rfl
 | x::l,a=>by
  rw [List.map_cons,List.foldl_cons,List.foldl_cons,← fold_map F sa l]
  congr 1
  simp
theorem zipIdx_map (F:Keyed→Keyed) (l:List Keyed):(l.map F).zipIdx=l.zipIdx.map fun x=>(F x.1,x.2):=by
 rw [List.zipIdx_map]
 rfl
theorem Sim.put {β:Type} [Mp β] {st:SortSt} (hk:kindOf st=T.kd) {p:Array (Nat × Nat × Nat)} {k k2:Unit→StateT SortSt Sem β} (h:Sim T (k ()) (k2 ())):Sim T (set (setPending st p) >>= k) (set (setPending (T.f st) p) >>= k2):=fun st' R p p2 hk' h'=>by
 rw [StateT.run_bind,Sem.wp_bind',StateT.run_set,Sem.wp_pure'] at h' ⊢
 exact h (setPending st _) R p p2 hk h'
theorem Sim.mAt (hA:Alike T) (i:Nat):Sim T (mergeAt' i) (mergeAt' i):=by
 rw [mergeAt'_eq]
 refine Sim.look fun st hk=>?_
 have e:pendingOf (T.f st)=pendingOf st:=rfl
 have e2:arrOf (T.f st)=(arrOf st).map T.F:=rfl
 rw [e,e2]
 cases (pendingOf st)[i]? with
 | none=>exact Sim.no
 | some x =>
  obtain ⟨sa,na,power⟩:=x
  cases (pendingOf st)[i + 1]? with
  | none=>exact Sim.no
  | some y =>
   obtain ⟨sb,nb,pw⟩:=y
   dsimp only
   refine Sim.put hk ?_
   refine Sim.bind (Sim.elem _ _) fun x=>?_
   refine Sim.bindO (Sim.gallop hA _ _ _ _ _ _) (Sim.ret rfl) fun k0=>?_
   dsimp only [mp_nat]
   refine Sim.ite (fun _=>Sim.ret rfl) fun _=>?_
   refine Sim.bind (Sim.elem _ _) fun x=>?_
   refine Sim.bindO (Sim.gallop hA _ _ _ _ _ _) (Sim.ret rfl) fun k=>?_
   dsimp only [mp_nat]
   refine Sim.ite (fun _=>Sim.ret rfl) fun _=>?_
   rw [← Array.map_extract,← Array.map_extract]
   have tail:∀ merged:Array Keyed,Sim T (do
     modify fun s=>setArr s (merged.toList.zipIdx.foldl (fun a (x:Keyed × Nat)=>a.setIfInBounds (sa + k0 + x.2) x.1) (arrOf s))
     return (failedOf (← get)).isNone) (do
     modify fun s=>setArr s ((merged.map T.F).toList.zipIdx.foldl (fun a (x:Keyed × Nat)=>a.setIfInBounds (sa + k0 + x.2) x.1) (arrOf s))
     return (failedOf (← get)).isNone):=fun merged=>by
    refine Sim.bind (Sim.chg fun st=>⟨rfl,?_⟩) fun _=>Sim.look fun st hk=>Sim.ret rfl
    show SortSt.mk' _ ((merged.map T.F).toList.zipIdx.foldl (fun a (x:Keyed × Nat)=>a.setIfInBounds (sa + k0 + x.2) x.1) ((arrOf st).map T.F)) _ _ _=SortSt.mk' _ ((merged.toList.zipIdx.foldl (fun a (x:Keyed × Nat)=>a.setIfInBounds (sa + k0 + x.2) x.1) (arrOf st)).map T.F) _ _ _
    rw [Array.toList_map,zipIdx_map,fold_map]
    rfl
   exact Sim.ite (fun _=>Sim.bind (Sim.mLo hA _ _) tail) fun _=>Sim.bind (Sim.mHi hA _ _) tail
theorem Sim.runs (hA:Alike T):Sim T sortRuns' sortRuns':=by
 rw [sortRuns'_eq]
 refine Sim.look fun st hk=>?_
 have e2:(arrOf (T.f st)).size=(arrOf st).size:=Array.size_map
 rw [e2]
 generalize (arrOf st).size=size
 dsimp only
 refine Sim.loop (fun i x c=>?_) (fun c=>?_) (fun a c=>?_) rfl
 ·dsimp only [mp_nat]
  refine Sim.ite (fun _=>Sim.ret rfl) fun _=>?_
  refine Sim.bindO (Sim.count hA _ _) (Sim.ret rfl) fun n=>?_
  dsimp only [mp_nat]
  refine Sim.ite (fun _=>Sim.tag _ (Sim.bind (Sim.binary hA _ _ _) fun b=>Sim.ite (fun _=>Sim.ret rfl) fun _=>?_)) fun _=>?_
  all_goals
   refine Sim.look fun st hk=>?_
   have e:pendingOf (T.f st)=pendingOf st:=rfl
   rw [e]
   cases (pendingOf st).back? with
   | none=>exact Sim.bind (Sim.chg fun st=>⟨rfl,rfl⟩) fun _=>Sim.ret rfl
   | some y =>
    obtain ⟨s1,n1,q⟩:=y
    refine Sim.loop (fun i x c=>?_) (fun c=>?_) (fun a c=>?_) rfl
    ·refine Sim.look fun st hk=>?_
     have e:pendingOf (T.f st)=pendingOf st:=rfl
     rw [e]
     cases (if (pendingOf st).size > 1 then (pendingOf st)[(pendingOf st).size - 2]? else none) with
     | none=>exact Sim.ret rfl
     | some z =>
      obtain ⟨z1,z2,z3⟩:=z
      exact Sim.ite (fun _=>Sim.ret rfl) fun _=>Sim.bind (Sim.mAt hA _) fun b=>Sim.ite (fun _=>Sim.ret rfl) fun _=>Sim.ret rfl
    ·exact Sim.bind (Sim.chg fun st=>⟨rfl,rfl⟩) fun _=>Sim.bind (Sim.chg fun st=>⟨rfl,rfl⟩) fun _=>Sim.ret rfl
    ·exact Sim.ret rfl
 ·refine Sim.loop (fun i x c=>?_) (fun c=>?_) (fun a c=>?_) rfl
  ·refine Sim.look fun st hk=>?_
   have e:pendingOf (T.f st)=pendingOf st:=rfl
   rw [e]
   exact Sim.ite (fun _=>Sim.ret rfl) fun _=>Sim.bind (Sim.mAt hA _) fun b=>Sim.ite (fun _=>Sim.ret rfl) fun _=>Sim.ret rfl
  ·exact Sim.ret rfl
  ·exact Sim.ret rfl
 ·exact Sim.ret rfl
end CsS
namespace CsS
open PySem PyProof.Rows
def tupN (i:Nat):Obj:={ cls:=.type "tuple",data:=.seq (Array.replicate i Value.none) 0 }
def heapN (n:Nat):Heap:={ objs:=Array.ofFn (n:=n + 1) fun i=>tupN i.val }
theorem heapN_get {n i:Nat} (h:i≤n):(heapN n).get? i=some (tupN i):=by
 unfold Heap.get? heapN
 have e:(Array.ofFn (n:=n + 1) fun i=>tupN i.val)[i]?=some (tupN i):=by
  rw [Array.getElem?_ofFn,dif_pos (by omega)]
 dsimp only
 rw [e]
 rfl
def sharedN (n:Nat):Shared:={ heap:=heapN n }
section
variable {M:Model} {G:Ctx} {n:Nat}
theorem items_at {i:Nat} (h:i≤n) {R:Array Value→Pos→Shared→Prop} {E:Value→Pos→Shared→Prop} {p:Pos} :
  Sem.wp M G (Builtin.List.listItems (.ref i)) R E p (sharedN n)↔R (Array.replicate i Value.none) p (sharedN n):=by
 unfold Builtin.List.listItems seqItems?
 simp only [Sem.wp_bind']
 show Sem.wp M G (.load i none .pure) _ E p (sharedN n)↔_
 rw [Sem.wp_load]
 constructor
 ·rintro ⟨o,e,h'⟩
  have e2:some o=some (tupN i):=e.symm.trans (heapN_get h)
  cases e2
  exact h'
 ·intro h'
  exact ⟨_,heapN_get h,h'⟩
theorem items_none {R:Array Value→Pos→Shared→Prop} {E:Value→Pos→Shared→Prop} {p:Pos} {s:Shared}:¬ Sem.wp M G (Builtin.List.listItems .none) R E p s:=by
 intro h
 exact h
theorem eq_none {R:Bool→Pos→Shared→Prop} {E:Value→Pos→Shared→Prop} {p:Pos} {s:Shared}:Sem.wp M G (eqBool .none .none) R E p s↔R true p s:=by
 unfold eqBool
 rw [Sem.wp_holding]
 exact Iff.rfl
theorem loopN {g:(Value × Value) × Nat→Option Bool × Unit→Sem (ForInStep (Option Bool × Unit))} (hg:∀ i,g ((.none,.none),i) (none,())=(do if !(← eqBool .none .none) then (do let b ← oneLt' (false && i == 0) .none .none;pure (.done (some b,()))) else pure (.yield (none,())))) :
  ∀ (k a:Nat) {R:Option Bool × Unit→Pos→Shared→Prop} {E:Value→Pos→Shared→Prop} {p:Pos} {s:Shared},Sem.wp M G (forIn ((List.replicate k (Value.none,Value.none)).zipIdx a) (none,()) g) R E p s↔R (none,()) p s
 | 0,a,R,E,p,s=>by
  rw [List.replicate_zero,List.zipIdx_nil,List.forIn_nil]
  exact Iff.rfl
 | k + 1,a,R,E,p,s=>by
  rw [List.replicate_succ,List.zipIdx_cons,List.forIn_cons,Sem.wp_bind',hg,Sem.wp_bind',eq_none]
  show Sem.wp M G (forIn ((List.replicate k (Value.none,Value.none)).zipIdx (a + 1)) (none,()) g) R E p s↔_
  exact loopN hg k (a + 1)
theorem ltN {i j:Nat} (hi:i≤n) (hj:j≤n) {R:Bool→Pos→Shared→Prop} {E:Value→Pos→Shared→Prop} {p:Pos} :
  Sem.wp M G (keyLt' (tuples' false) (.ref i) (.ref j)) R E p (sharedN n)↔R (decide (i < j)) p (sharedN n):=by
 rw [kat_lt_eq,Sem.wp_bind',items_at hi,Sem.wp_bind',items_at hj,Sem.wp_bind']
 have e:(Array.replicate i Value.none).toList.zip (Array.replicate j Value.none).toList=List.replicate (min i j) (Value.none,Value.none):=by simp
 rw [e,loopN]
 ·dsimp only
  rw [Array.size_replicate,Array.size_replicate]
  exact Iff.rfl
 ·intro i
  rfl
end
def natKind (n:Nat):KeyKind where
 α:=Nat
 blt:=fun a b=>decide (a < b)
 irrefl:=fun a=>by simp
 trans:=fun a b c h1 h2=>by simp at h1 h2 ⊢;omega
 negTrans:=fun a b c h=>by simp at h ⊢;omega
 total:=fun a b h1 h2=>by simp at h1 h2;omega
 keyOf:=fun v=>match v with
  | .ref a=>if a≤n then some a else none
  | _=>none
 dflt:=0
theorem natKind_of {n:Nat} {v:Value} {a:Nat} (h:(natKind n).keyOf v=some a):v=.ref a∧a≤n:=by
 cases v with
 | ref b =>
  have h':(if b≤n then some b else none)=some a:=h
  split at h'
  ·cases h';exact ⟨rfl,‹_›⟩
  ·cases h'
 | _=>cases h
theorem natKind_lt {prog:Program} {w:World} (n:Nat):G.LtAt prog w (sharedN n) (natKind n) (tuples' false):=by
 intro A E x y a b Q ha hb h
 obtain ⟨rfl,ha'⟩:=natKind_of ha
 obtain ⟨rfl,hb'⟩:=natKind_of hb
 intro Γ p _
 exact (ltN ha' hb').mpr h
section
variable (κ:KeyKind)
def rank (L:List κ.α) (a:κ.α):Nat:=L.countP fun b=>κ.blt b a
theorem rank_le (L:List κ.α) (a:κ.α):rank κ L a≤L.length:=List.countP_le_length
variable {κ}
theorem countP_lt {α:Type} {p q:α→Bool}:∀ {l:List α},(∀ x∈l,p x=true→q x=true)→(∃ x∈l,p x=false∧q x=true)→l.countP p < l.countP q
 | [],_,⟨x,h,_⟩=>nomatch h
 | y::l,hm,⟨x,h,hp,hq⟩=>by
  rw [List.countP_cons,List.countP_cons]
  have hle:l.countP p≤l.countP q:=List.countP_mono_left fun x hx=>hm x (List.mem_cons_of_mem _ hx)
  rcases List.mem_cons.mp h with rfl | h
  ·rw [hp,hq];simp;omega
  ·have ih:=countP_lt (p:=p) (q:=q) (l:=l) (fun x hx=>hm x (List.mem_cons_of_mem _ hx)) ⟨x,h,hp,hq⟩
   have h1:=hm y List.mem_cons_self
   cases e1:p y with
   | false=>cases e2:q y <;> simp <;> omega
   | true=>rw [h1 e1];simp;omega
theorem rank_lt {L:List κ.α} {a b:κ.α} (ha:a∈L):decide (rank κ L a < rank κ L b)=κ.blt a b:=by
 cases e:κ.blt a b with
 | true =>
  refine decide_eq_true (countP_lt (fun x _ h=>κ.trans _ _ _ h e) ⟨a,ha,κ.irrefl a,e⟩)
 | false =>
  refine decide_eq_false ?_
  have:rank κ L b≤rank κ L a:=List.countP_mono_left fun x _ h=>by
   rcases κ.negTrans x a b h with h' | h'
   ·exact h'
   ·rw [e] at h';cases h'
  omega
open Classical in
noncomputable def fRank (κ:KeyKind) (L:List κ.α) (x:Keyed):Keyed:=match κ.keyOf x.1 with
 | some a=>if a∈L then (.ref (rank κ L a),x.2) else (.none,x.2)
 | none=>(.none,x.2)
theorem fRank_snd (L:List κ.α) (x:Keyed):(fRank κ L x).2=x.2:=by
 unfold fRank
 split
 ·split <;> rfl
 ·rfl
theorem fRank_in {L:List κ.α} {x:Keyed} {a:κ.α} (h:κ.keyOf x.1=some a) (ha:a∈L):fRank κ L x=(.ref (rank κ L a),x.2):=by
 unfold fRank
 rw [h]
 exact if_pos ha
theorem fRank_or (L:List κ.α) (x:Keyed):(fRank κ L x).1=.none∨∃ a,κ.keyOf x.1=some a∧a∈L∧(fRank κ L x).1=.ref (rank κ L a):=by
 unfold fRank
 cases h:κ.keyOf x.1 with
 | none=>exact .inl rfl
 | some a =>
  dsimp only
  split
  ·exact .inr ⟨a,rfl,‹_›,rfl⟩
  ·exact .inl rfl
end
theorem perm_of_map {α β:Type} (f:α→β):∀ (m:List β) (l:List α),m.Perm (l.map f)→∃ l':List α,l'.Perm l∧l'.map f=m
 | [],l,h=>by
  have e:l.map f=[]:=List.perm_nil.mp h.symm
  have:l=[]:=List.map_eq_nil_iff.mp e
  subst this
  exact ⟨[],.refl _,rfl⟩
 | y::m,l,h=>by
  have hy:y∈l.map f:=h.mem_iff.mp List.mem_cons_self
  obtain ⟨x,hx,e⟩:=List.mem_map.mp hy
  obtain ⟨l1,l2,rfl⟩:=List.append_of_mem hx
  have hp:(y::m).Perm (y::(l1++l2).map f):=by
   refine h.trans ?_
   rw [List.map_append,List.map_cons,List.map_append,e]
   exact List.perm_middle
  obtain ⟨l',h1,h2⟩:=perm_of_map f m (l1++l2) ((List.perm_cons y).mp hp)
  exact ⟨x::l',(h1.cons x).trans List.perm_middle.symm,by rw [List.map_cons,h2,e]⟩
section
variable {prog:Program} {w:World} {A:Around} {E:Value→Shared→Prop} {s:Shared} {κ:KeyKind} {kd:SortKind}
def LtIn (prog:Program) (w:World) (A:Around) (s:Shared) (κ:KeyKind) (kd:SortKind):Prop :=
 ∀ (E:Value→Shared→Prop) (x y:Value) (a b:κ.α) {Q:Bool→Shared→Prop},κ.keyOf x=some a→κ.keyOf y=some b→Q (κ.blt a b) s→wpAny (model prog w) A (keyLt' kd x y) Q E s
theorem alike {Γ:Ctx} (hΓ:Γ.In A) (hO:LtIn prog w A s κ kd) (L:List κ.α):Alike ⟨model prog w,Γ,s,sharedN L.length,fRank κ L,kd,tuples' false⟩:=by
 intro x y R E p p2 h
 have h:Sem.wp (model prog w) Γ (keyLt' (tuples' false) (fRank κ L x).1 (fRank κ L y).1) R E p2 (sharedN L.length):=h
 rcases fRank_or L x with e | ⟨a,ka,ha,e⟩
 ·exfalso
  rw [e,kat_lt_eq,Sem.wp_bind'] at h
  exact items_none h
 ·rcases fRank_or L y with e' | ⟨b,kb,hb,e'⟩
  ·exfalso
   rw [e,e',kat_lt_eq,Sem.wp_bind',items_at (rank_le κ L a),Sem.wp_bind'] at h
   exact items_none h
  ·rw [e,e',ltN (rank_le κ L a) (rank_le κ L b),rank_lt ha] at h
   exact hO (fun _ _=>False) x.1 y.1 a b (Q:=fun b' s'=>s'=s∧∃ q,R b' q (sharedN L.length)) ka kb ⟨rfl,p2,h⟩ Γ p hΓ
theorem sort_at {st:SortSt} {a0:Array Keyed} {Q:Unit→SortSt→Prop} (hO:LtIn prog w A s κ kd) (h0:KeysOf κ a0) (hk:kindOf st=kd) (ha:arrOf st=a0) (hp:pendingOf st=#[]) (hf:failedOf st=none) (h2:2≤a0.size)
  (h:∀ st',failedOf st'=none→(∃ xs:List Keyed,xs.map (·.2)=((arrOf st').map (·.2)).toList∧xs.Perm a0.toList∧xs.Pairwise fun x y=>∀ a b,κ.keyOf x.1=some a→κ.keyOf y.1=some b→κ.blt b a=false)→Q () st') :
  wpS (model prog w) A E s sortRuns' Q st:=by
 intro Γ p hΓ
 let L:List κ.α:=a0.toList.filterMap fun x=>κ.keyOf x.1
 have hL:∀ x∈a0.toList,∃ a,κ.keyOf x.1=some a∧a∈L:=fun x hx=>by
  obtain ⟨a,e⟩:=h0 x hx
  exact ⟨a,e,List.mem_filterMap.mpr ⟨x,hx,e⟩⟩
 let T:Two:=⟨model prog w,Γ,s,sharedN L.length,fRank κ L,kd,tuples' false⟩
 have hK:KeysOf (natKind L.length) (a0.map (fRank κ L)):=by
  intro q hq
  rw [Array.toList_map] at hq
  obtain ⟨x,hx,rfl⟩:=List.mem_map.mp hq
  obtain ⟨a,e,hm⟩:=hL x hx
  refine ⟨rank κ L a,?_⟩
  rw [fRank_in e hm]
  exact if_pos (rank_le κ L a)
 have lib:=G.wpS_sortRunsSt (prog:=prog) (w:=w) (A:=A) (E:=fun _ _=>False) (s:=sharedN L.length) (κ:=natKind L.length) (kd:=tuples' false) (a₀:=a0.map (fRank κ L)) (st:=T.f st)
  (Q:=fun _ st'=>failedOf st'=none∧(arrOf st').Perm (a0.map (fRank κ L))∧SortedToK (natKind L.length) (arrOf st') (a0.map (fRank κ L)).size) (natKind_lt _) hK ⟨(by subst ha;exact Array.Perm.refl _),rfl,hf⟩ hp
  (by subst ha;exact Stable.refl _) (by rw [Array.size_map];exact h2) fun st' a1 a2 a3 _=>⟨a2,a1,a3⟩
 have sim:=Sim.runs (T:=T) (alike hΓ hO L) st (fun _ st' _ s'=>s'=sharedN L.length∧failedOf st'=none∧(arrOf st').Perm (a0.map (fRank κ L))∧SortedToK (natKind L.length) (arrOf st') (a0.map (fRank κ L)).size) p p hk (lib Γ p hΓ)
 refine Sem.wp_mono _ _ _ (fun r p' s' q=>?_) (fun _ _ _ z=>z.elim) _ _ sim
 obtain ⟨rfl,_,_,_,hf',hperm,hsort⟩:=q
 refine ⟨rfl,h r.2 hf' ?_⟩
 have hp1:((arrOf r.2).toList.map (fRank κ L)).Perm (a0.toList.map (fRank κ L)):=by
  have:=Array.perm_iff_toList_perm.mp hperm
  rw [Array.toList_map] at this
  have e:(arrOf (T.f r.2)).toList=(arrOf r.2).toList.map (fRank κ L):=Array.toList_map
  rw [e] at this
  exact this
 obtain ⟨xs,x1,x2⟩:=perm_of_map _ _ _ hp1
 refine ⟨xs,?_,x1,?_⟩
 ·have e:∀ l:List Keyed,l.map (·.2)=(l.map (fRank κ L)).map (·.2):=fun l=>by
   rw [List.map_map]
   exact List.map_congr_left fun x _=>(fRank_snd L x).symm
  rw [e xs,x2,← e,Array.toList_map]
 ·rw [List.pairwise_iff_getElem]
  intro i j hi hj hij a b ka kb
  obtain ⟨a',ea,ma⟩:=hL xs[i] (x1.mem_iff.mp (List.getElem_mem hi))
  obtain ⟨b',eb,mb⟩:=hL xs[j] (x1.mem_iff.mp (List.getElem_mem hj))
  rw [ka] at ea;cases ea
  rw [kb] at eb;cases eb
  have hlen:xs.length=a0.size:=by rw [x1.length_eq,Array.length_toList]
  have hs:=hsort i j (Nat.le_of_lt hij) (by rw [Array.size_map];omega)
  have kk:∀ (i:Nat) (hi:i < xs.length) (a:κ.α),κ.keyOf (xs[i]).1=some a→a∈L→KK (natKind L.length) (arrOf (T.f r.2)) i=rank κ L a:=by
   intro i hi a ka ma
   have e1:(arrOf (T.f r.2))[i]?=some (fRank κ L xs[i]):=by
    have e:(arrOf (T.f r.2))=(arrOf r.2).map (fRank κ L):=rfl
    rw [e,← Array.getElem?_toList,Array.toList_map,← x2,List.getElem?_map,List.getElem?_eq_getElem hi]
    rfl
   unfold KK
   rw [e1,fRank_in ka ma]
   show ((if rank κ L a≤L.length then some (rank κ L a) else none).getD 0)=_
   rw [if_pos (rank_le κ L a)]
   rfl
  rw [kk i hi a ka ma,kk j hj b kb mb] at hs
  have hs:decide (rank κ L b < rank κ L a)=false:=hs
  rw [rank_lt mb] at hs
  exact hs
end
end CsS
namespace CsS
open PySem PyProof.Rows
def lexI:List Int→List Int→Bool
 | _,[]=>false
 | [],_::_=>true
 | x::xs,y::ys=>decide (x < y) || (decide (x=y) && lexI xs ys)
def lstObj (items:Array Value) (n:Nat):Obj:={ cls:=.type "list",dict:=none,data:=.seq items n,slots:=#[] }
def Both (l b:Addr) (o o2:Obj) (v:Bool):PySem.Spec:=fun _ R s=>s.heap.get? l=some o∧s.heap.get? b=some o2∧R (.ok (.ret (.bool v))) s
theorem lexI_end {ns ms:List Int} {i:Nat} (h1:i≤ns.length) (h2:i≤ms.length) (h:i=ns.length∨i=ms.length):lexI (ns.drop i) (ms.drop i)=decide (ns.length < ms.length):=by
 rcases h with h | h
 ·rw [h,List.drop_length]
  cases e:ms.drop ns.length with
  | nil =>
   have:ms.length≤ns.length:=List.drop_eq_nil_iff.mp e
   exact (decide_eq_false (by omega)).symm
  | cons y ys =>
   have:ns.length < ms.length:=by
    have:=congrArg List.length e
    rw [List.length_drop,List.length_cons] at this
    omega
   exact (decide_eq_true this).symm
 ·rw [h,List.drop_length]
  have e:∀ l:List Int,lexI l []=false:=fun l=>by cases l <;> rfl
  rw [e]
  exact (decide_eq_false (by omega)).symm
theorem ints_at {vs:List Value} {ns:List Int} (h:IntsAre vs ns):∀ {i:Nat},i < ns.length→∃ a t,vs[i]?=some (.int a t)∧ns[i]?=some a∧ns.drop i=a::ns.drop (i + 1):=by
 induction h with
 | nil=>intro i hi;cases hi
 | cons a t h ih =>
  intro i hi
  cases i with
  | zero=>exact ⟨a,t,rfl,rfl,rfl⟩
  | succ i =>
   obtain ⟨b,u,h1,h2,h3⟩:=ih (i:=i) (by simpa using hi)
   exact ⟨b,u,by simpa using h1,by simpa using h2,by simpa using h3⟩
open PySem.AutoSeq1 (wpAny_loadPart') in
open PySem.MeetsSeq PySem.MeetsSeq3 in
theorem lt_turns {l b:Addr} {xs ys:Array Value} {n n2:Nat} {ns ms:List Int} (hx:IntsAre xs.toList ns) (hy:IntsAre ys.toList ms):∀ (k i:Nat),ns.length - i=k→i≤ns.length→i≤ms.length →
  Meets (Builtin.«list.__eq__.loop» ⟨[.ref l,.ref b,rawInt i,rawInt 0],[]⟩) (Both l b (lstObj xs n) (lstObj ys n2) (lexI (ns.drop i) (ms.drop i))):=by
 have zx:xs.size=ns.length:=by rw [← hx.length];simp
 have zy:ys.size=ms.length:=by rw [← hy.length];simp
 intro k
 induction k with
 | zero =>
  intro i hk h1 h2 prog w A R s hs
  obtain ⟨h0,g0,d0,t0,o0⟩:=s
  obtain ⟨e1,e2,hR⟩:=hs
  unfold lstObj at e1 e2
  wp_walk using wpAny_loadPart' e1,wpAny_loadPart' e2
  have q1:xs[((i:Nat):Int).toNat]?=none:=by simp;omega
  rw [q1]
  wp_walk using wpAny_loadPart' e1,wpAny_loadPart' e2
  show R (.ok (.ret (.bool (decide (xs.size < ys.size))))) _
  rw [lexI_end h1 h2 (.inl (by omega))] at hR
  rw [zx,zy]
  exact hR
 | succ k ih =>
  intro i hk h1 h2 prog w A R s hs
  obtain ⟨h0,g0,d0,t0,o0⟩:=s
  obtain ⟨e1,e2,hR⟩:=hs
  unfold lstObj at e1 e2
  wp_walk using wpAny_loadPart' e1,wpAny_loadPart' e2
  obtain ⟨a,t,v1,v2,v3⟩:=ints_at hx (i:=i) (by omega)
  have q1:xs[((i:Nat):Int).toNat]?=some (.int a t):=by
   rw [Int.toNat_natCast,← Array.getElem?_toList];exact v1
  rw [q1]
  by_cases h3:i=ms.length
  ·have q2:ys[((i:Nat):Int).toNat]?=none:=by simp;omega
   rw [q2]
   wp_walk using wpAny_loadPart' e1,wpAny_loadPart' e2
   show R (.ok (.ret (.bool (decide (xs.size < ys.size))))) _
   rw [lexI_end h1 h2 (.inr h3)] at hR
   rw [zx,zy]
   exact hR
  ·obtain ⟨c,u,w1,w2,w3⟩:=ints_at hy (i:=i) (by omega)
   have q2:ys[((i:Nat):Int).toNat]?=some (.int c u):=by
    rw [Int.toNat_natCast,← Array.getElem?_toList];exact w1
   rw [q2]
   rw [v3,w3] at hR
   refine wpAny_bind (wpAny_eqBool_int ?_)
   by_cases hac:a=c
   ·subst hac
    have e3:(a == a)=true:=by simp
    rw [e3]
    have e4:lexI (a::ns.drop (i + 1)) (a::ms.drop (i + 1))=lexI (ns.drop (i + 1)) (ms.drop (i + 1)):=by simp [lexI]
    rw [e4] at hR
    wp_walk
    have hc:((i:Int) + 1)=((i + 1:Nat):Int):=by omega
    rw [hc]
    refine ⟨plainId_quiet plain_eq_loop _,codeAny_builtin entry_eq_loop ?_⟩
    rw [Around.under_plainId plain_eq_loop _]
    exact ih (i + 1) (by omega) (by omega) (by omega) prog w A R _ ⟨e1,e2,hR⟩
   ·have e3:(a == c)=false:=by simp [hac]
    rw [e3]
    have e4:lexI (a::ns.drop (i + 1)) (c::ms.drop (i + 1))=decide (a < c):=by simp [lexI,hac]
    rw [e4] at hR
    wp_walk using wpAny_loadPart' e1,wpAny_loadPart' e2
    rw [q1,q2]
    dsimp only
    have rc:∀ {Q:Value→Shared→Prop} {E:Value→Shared→Prop} {A:Around} {s:Shared},Q (.bool (decide (a < c))) s→wpAny (model prog w) A (richCompare .Lt (.int a t) (.int c u)) Q E s:=fun h=>(PyProof.Rows.lt_int h:wpAny (model prog w) _ (compareOp .Lt (.int a t) (.int c u)) _ _ _)
    refine wpAny_bind (rc ?_)
    exact wpAny_pure hR
open PySem.AutoSeq1 (wpAny_loadPart') in
open PySem.MeetsSeq PySem.MeetsSeq3 in
theorem lt_meets {l b:Addr} {xs ys:Array Value} {n n2:Nat} {ns ms:List Int} (hx:IntsAre xs.toList ns) (hy:IntsAre ys.toList ms) :
  Meets (Builtin.«list.__lt__» ⟨[.ref l,.ref b],[]⟩) (Both l b (lstObj xs n) (lstObj ys n2) (lexI ns ms)):=by
 intro prog w A R s hs
 obtain ⟨h0,g0,d0,t0,o0⟩:=s
 obtain ⟨e1,e2,hR⟩:=hs
 unfold lstObj at e1 e2
 have f3:=AutoSeq1.sub_list_list
 wp_walk using wpAny_loadPart' e1,wpAny_loadPart' e2
 refine ⟨plainId_quiet plain_eq_loop _,codeAny_builtin entry_eq_loop ?_⟩
 rw [Around.under_plainId plain_eq_loop _]
 exact lt_turns hx hy _ 0 rfl (Nat.zero_le _) (Nat.zero_le _) prog w A R _ ⟨e1,e2,hR⟩
theorem lexI_irrefl:∀ a,lexI a a=false
 | []=>rfl
 | x::r=>by simp [lexI,lexI_irrefl r]
theorem lexI_asymm:∀ a b,lexI a b=true→lexI b a=false
 | _,[],h=>by cases ‹List Int› <;> simp [lexI] at h
 | [],_::_,_=>rfl
 | a::r,b::q,h=>by
  simp [lexI] at h ⊢
  rcases h with h | ⟨h,h'⟩
  ·refine ⟨by omega,fun e=>by omega⟩
  ·subst h
   exact ⟨Int.le_refl _,fun _=>lexI_asymm r q h'⟩
theorem lexI_total:∀ a b,lexI a b=false→lexI b a=false→a=b
 | [],[],_,_=>rfl
 | [],_::_,h,_=>by simp [lexI] at h
 | _::_,[],_,h=>by simp [lexI] at h
 | a::r,b::q,h,h'=>by
  simp [lexI] at h h'
  have e:a=b:=by omega
  subst e
  rw [lexI_total r q (h.2 rfl) (h'.2 rfl)]
theorem lexI_trans:∀ a b c,lexI a b=true→lexI b c=true→lexI a c=true
 | _,[],_,h,_=>by cases ‹List Int› <;> simp [lexI] at h
 | _,_::_,[],_,h=>by simp [lexI] at h
 | [],_::_,_::_,_,_=>rfl
 | a::r,b::q,c::p,h,h'=>by
  simp [lexI] at h h' ⊢
  rcases h with h | ⟨h,g⟩
  ·rcases h' with h' | ⟨h',g'⟩
   ·exact .inl (by omega)
   ·exact .inl (by omega)
  ·rcases h' with h' | ⟨h',g'⟩
   ·exact .inl (by omega)
   ·exact .inr ⟨by omega,lexI_trans r q p g g'⟩
def IsL (h:Heap) (v:Value) (ns:List Int):Prop:=∃ a xs n,v=.ref a∧h.get? a=some (lstObj xs n)∧IntsAre xs.toList ns
theorem ints_one:∀ {vs:List Value} {ns ms:List Int},IntsAre vs ns→IntsAre vs ms→ns=ms
 | _,_,_,.nil,.nil=>rfl
 | _,_,_,.cons a t h,.cons _ _ h'=>by rw [ints_one h h']
theorem IsL.one {h:Heap} {v:Value} {ns ms:List Int} (a:IsL h v ns) (b:IsL h v ms):ns=ms:=by
 obtain ⟨x,xs,n,rfl,e,q⟩:=a
 obtain ⟨y,ys,m,e1,e2,q2⟩:=b
 cases e1
 rw [e] at e2
 injection e2 with e3
 unfold lstObj at e3
 injection e3 with _ _ e4 _
 injection e4 with e5 _
 subst e5
 exact ints_one q q2
open Classical in
noncomputable def intsOf (h:Heap) (v:Value):Option (List Int):=if H:∃ ns,IsL h v ns then some (Classical.choose H) else none
theorem intsOf_eq {h:Heap} {v:Value} {ns:List Int}:intsOf h v=some ns↔IsL h v ns:=by
 unfold intsOf
 constructor
 ·intro e
  split at e
  ·rename_i H
   cases e
   exact Classical.choose_spec H
  ·cases e
 ·intro e
  have H:∃ ns,IsL h v ns:=⟨ns,e⟩
  rw [dif_pos H]
  exact congrArg some ((Classical.choose_spec H).one e)
noncomputable def listKind (h:Heap):KeyKind where
 α:=List Int
 blt:=lexI
 irrefl:=lexI_irrefl
 trans:=lexI_trans
 negTrans:=fun a b c h=>by
  cases e:lexI a b with
  | true=>exact .inl rfl
  | false =>
   refine .inr ?_
   cases e1:lexI b a with
   | true=>exact lexI_trans b a c e1 h
   | false =>
    have:=lexI_total a b e e1
    subst this
    exact h
 total:=lexI_total
 keyOf:=intsOf h
 dflt:=[]
section
variable {prog:Program} {w:World} {A:Around} {s:Shared}
theorem list_ltIn (hu:A.units < cLine):LtIn prog w A s (listKind s.heap) oneType':=by
 intro E x y a b Q ha hb h
 obtain ⟨l,xs,n,rfl,e1,i1⟩:=intsOf_eq.mp ha
 obtain ⟨m,ys,n2,rfl,e2,i2⟩:=intsOf_eq.mp hb
 rw [keyLt'_oneType,oneLt'_eq]
 simp only [if_true]
 refine wpAny_bind (wpAny_cRoomFor hu ?_)
 have hT:s.TypeIs (.ref l) "list":=⟨_,e1,rfl⟩
 refine wpAny_bind (wpAny_callSpecialIfBound?_slot (id:="list.__lt__") hT PySem.F.slot_list_lt (call_meets PySem.F.slot_list_lt hT PySem.F.entry_list_lt (PySem.F.args_list_lt_2 _ _) (lt_meets (n:=n) (n2:=n2) i1 i2) ⟨e1,e2,?_⟩))
 exact wpAny_truthy_bool h
end
end CsS
namespace L2
open PySem PySem.Spec PyProof.Rows
abbrev Pk:=List Key × List Key
section
variable {P:Program} {w:World}
abbrev tk (P:Program) (w:World):HeapKind P w (List Key):=tupleKind (mixKind P w)
def pairIs (P:Program) (w:World) (h:Heap) (k:Pk) (a:Addr):Prop :=
 ∃ o n b c,h.get? a=some o∧o.cls=.type "tuple"∧o.data=.seq #[.ref b,.ref c] n∧(tk P w).is h k.1 b∧(tk P w).is h k.2 c
def pairHash (P:Program) (w:World) (k:Pk):Int:=reduceHash (Builtin.Tuple.tupleHashOf [(tk P w).hash k.1,(tk P w).hash k.2])
def pairDraws (P:Program) (w:World) (k:Pk):Nat:=(tk P w).draws k.1 + (tk P w).draws k.2 + 1
variable {A:Around} {E:Value→Shared→Prop} {s:Shared}
theorem pair_type {k:Pk} {a:Addr} (h:pairIs P w s.heap k a):s.TypeIs (.ref a) "tuple":=by
 obtain ⟨o,n,b,c,e,ec,_⟩:=h
 exact ⟨o,e,ec⟩
theorem pair_inj {h:Heap} {a:Addr} {x y:Pk} (hx:pairIs P w h x a) (hy:pairIs P w h y a):x=y:=by
 obtain ⟨o,n,b,c,e,_,ed,h1,h2⟩:=hx
 obtain ⟨o',n',b',c',e',_,ed',h1',h2'⟩:=hy
 rw [e] at e'
 cases e'
 rw [ed] at ed'
 cases ed'
 exact Prod.ext ((tk P w).inj h1 h1') ((tk P w).inj h2 h2')
theorem pair_keeps {h h':Heap} {k:Pk} {a d:Addr} {o:Obj} {es:Array DictEntry} {ep:Nat} (x:pairIs P w h k a) (ho:h.get? d=some o) (hd:o.data=.dict es ep) (hs:Heap.SameBut d h h'):pairIs P w h' k a:=by
 obtain ⟨o',n,b,c,e,ec,ed,h1,h2⟩:=x
 have ne:a≠d:=fun z=>by
  rw [z,ho] at e
  cases e
  rw [hd] at ed
  cases ed
 exact ⟨o',n,b,c,(hs.2 a ne).trans e,ec,ed,(tk P w).keeps h1 ho hd hs,(tk P w).keeps h2 ho hd hs⟩
theorem pair_hash {k:Pk} {a:Addr} {Q:Int→Shared→Prop} (hu:A.units + 1 < cLine) (hk:pairIs P w s.heap k a) (h:Q (pairHash P w k) { s with toks:=s.toks + pairDraws P w k }):wpAny (model P w) A (pyHash (.ref a)) Q E s:=by
 have hT:=pair_type hk
 obtain ⟨o,n,b,c,e,ec,ed,h1,h2⟩:=hk
 have hu0:A.units < cLine:=by omega
 unfold pyHash
 first | unfold pyHashByItsType | skip
 first | refine wpAny_bind (wpAny_cRoomFor_or (.inr hu0) ?_) | skip
 have lk:=F.slot_tuple_hash.lookup
 refine wpAny_bind (wpAny_specialOf hT lk ?_)
 rw [if_neg (by rw [beq_builtin_none];simp)]
 refine wpAny_bind (wpAny_specialOf hT lk ?_)
 dsimp only
 refine wpAny_bind (wpAny_callSpecialIfBoundUnlessNone?_slot hT F.slot_tuple_hash (wpAny_call_entry F.slot_tuple_hash hT F.entry_tuple_hash ?_ (F.args_tuple_hash_1 _)))
 unfold Builtin.«tuple.__hash__»
 show wpAny _ _ (Builtin.Tuple.tupleItemsOf (.ref a) >>= _) _ _ s
 refine wpAny_bind (wpAny_tupleItemsOf e ed ?_)
 have arr:(#[Value.ref b,Value.ref c]:Array Value)=[Value.ref b,Value.ref c].toArray:=rfl
 rw [arr,List.forIn_toArray]
 simp only [List.forIn_cons,List.forIn_nil]
 have hu1:A.in1.units < cLine:=hu
 refine wpAny_bind (wpAny_bind (wpAny_bind ((tk P w).pyHash hu1 h1 (wpAny_pure ?_))))
 refine wpAny_bind (wpAny_bind ((tk P w).pyHash hu1 h2 (wpAny_pure ?_)))
 refine wpAny_pure ?_
 show wpAny _ _ (retInt (Builtin.Tuple.tupleHashOf [(tk P w).hash k.1,(tk P w).hash k.2])) _ _ _
 refine wpAny_ret_mkInt ?_
 have ht:s.toks + (tk P w).draws k.1 + (tk P w).draws k.2 + 1=s.toks + pairDraws P w k:=by
  unfold pairDraws
  omega
 have fin:Q (pairHash P w k) { s with toks:=s.toks + (tk P w).draws k.1 + (tk P w).draws k.2 + 1 }:=by rw [ht];exact h
 unfold pairHash reduceHash at fin
 show wpAny _ _ (if _ then _ else _) Q E _
 by_cases hr:(decide (-(2:Int) ^ 63≤Builtin.Tuple.tupleHashOf [(tk P w).hash k.1,(tk P w).hash k.2]) && decide (Builtin.Tuple.tupleHashOf [(tk P w).hash k.1,(tk P w).hash k.2] < 2 ^ 63))=true
 ·rw [if_pos hr] at fin
  refine wpAny_ite ?_
  rw [if_pos hr]
  exact wpAny_pure fin
 ·rw [if_neg hr] at fin
  refine wpAny_ite ?_
  rw [if_neg hr]
  exact wpAny_bind (wpAny_rule (wpAny_pure fin))
theorem pair_eq_run {x y:Pk} {a b:Addr} {R:Fin→Shared→Prop} (hu:A.units < cLine) (hx:pairIs P w s.heap x a) (hy:pairIs P w s.heap y b) (h:R (.done (.ret (.bool (decide (x=y))))) s):wpAny (model P w) A (Builtin.«tuple.__eq__» ⟨[.ref a,.ref b],[]⟩) R E s:=by
 have hT:=pair_type hy
 obtain ⟨o,n,b1,c1,e,_,ed,h1,h2⟩:=hx
 obtain ⟨o',n',b2,c2,e',_,ed',h1',h2'⟩:=hy
 show wpAny _ _ (isInstance (.ref b) (.type "tuple") >>= _) _ _ s
 refine wpAny_bind (wpAny_isInstance hT isSubtype_tuple_tuple ?_)
 rw [if_neg (by simp)]
 refine wpAny_bind (wpAny_tupleItemsOf e ed ?_)
 refine wpAny_bind (wpAny_tupleItemsOf e' ed' ?_)
 show wpAny _ _ (forIn [(Value.ref b1,Value.ref b2),(Value.ref c1,Value.ref c2)] _ _ >>= _) _ _ s
 simp only [List.forIn_cons,List.forIn_nil]
 refine wpAny_bind (wpAny_bind (wpAny_bind ((tk P w).eqBool hu h1 h1' ?_)))
 by_cases q1:x.1=y.1
 ·rw [decide_eq_true q1,if_neg (by simp)]
  refine wpAny_pure ?_
  refine wpAny_bind (wpAny_bind ((tk P w).eqBool hu h2 h2' ?_))
  by_cases q2:x.2=y.2
  ·rw [decide_eq_true q2,if_neg (by simp)]
   refine wpAny_pure (wpAny_pure ?_)
   have q:decide (x=y)=true:=decide_eq_true (Prod.ext q1 q2)
   rw [q] at h
   exact wpAny_pure h
  ·rw [decide_eq_false q2,if_pos (by simp)]
   have q:decide (x=y)=false:=decide_eq_false fun z=>q2 (by rw [z])
   rw [q] at h
   exact wpAny_bind (wpAny_pure (wpAny_pure (wpAny_pure (wpAny_pure h))))
 ·rw [decide_eq_false q1,if_pos (by simp)]
  have q:decide (x=y)=false:=decide_eq_false fun z=>q1 (by rw [z])
  rw [q] at h
  exact wpAny_bind (wpAny_pure (wpAny_pure (wpAny_pure (wpAny_pure h))))
theorem pair_eq {x y:Pk} {a b:Addr} {Q:Bool→Shared→Prop} (hu:A.units + 1 < cLine) (hx:pairIs P w s.heap x a) (hy:pairIs P w s.heap y b) (h:Q (decide (x=y)) s):wpAny (model P w) A (eqBool (.ref a) (.ref b)) Q E s:=by
 have hu0:A.units < cLine:=by omega
 unfold eqBool
 try with_reducible refine wpAny_holding ?_
 by_cases hab:a=b
 ·subst hab
  obtain rfl:=pair_inj hx hy
  rw [if_pos (by simp)]
  refine wpAny_bind (wpAny_rule (wpAny_pure ?_))
  simpa using h
 ·rw [if_neg (by intro z;have z':=eq_of_beq z;cases z';exact hab rfl)]
  dsimp only
  refine wpAny_bind (wpAny_richCompare_same_room (op:=.Eq) (pair_type hx) (pair_type hy) F.slot_tuple_eq ?_ hu0)
  refine wpAny_call_entry F.slot_tuple_eq (pair_type hx) F.entry_tuple_eq ?_ (F.args_tuple_eq_2 _ _)
  exact pair_eq_run hu hx hy ⟨_,rfl,⟨(fun z=>by cases z),wpAny_truthy_bool h⟩⟩
theorem quiet_tuple {m:Nat} {a:Addr} {o:Obj} {its:Array Value} {n:Nat} {Q:Bool→Shared→Prop} (e:s.heap.get? a=some o) (ec:o.cls=.type "tuple") (ed:o.data=.seq its n)
  (hq:∀ v∈its.toList,∀ (R:Bool→Shared→Prop),R true s→wpAny (model P w) A (eqIsQuiet m v) R E s) (h:Q true s):wpAny (model P w) A (eqIsQuiet (m + 1) (.ref a)) Q E s:=by
 have hT:s.TypeIs (.ref a) "tuple":=⟨o,e,ec⟩
 unfold eqIsQuiet
 refine wpAny_bind (wpAny_specialOf hT F.slot_tuple_eq.lookup ?_)
 dsimp only
 refine wpAny_bind (wpAny_isInstance hT isSubtype_tuple_tuple ?_)
 rw [if_neg (by simp)]
 refine wpAny_bind (wpAny_seqItems e ed ?_)
 refine wpAny_bind ?_
 show wpAny _ _ (forIn its _ _) _ _ s
 rw [← Array.forIn_toList]
 refine wpAny_forIn_list _ (fun rest r s'=>r.1=none∧s'=s∧∀ v∈rest,v∈its.toList) _ ?_ ?_ _ _ ⟨rfl,rfl,fun v hv=>hv⟩
 ·rintro v rest r s' ⟨hr,rfl,hall⟩
  refine wpAny_bind (hq v (hall v List.mem_cons_self) _ ?_)
  rw [if_neg (by simp)]
  exact wpAny_pure ⟨rfl,rfl,fun u hu'=>hall u (List.mem_cons_of_mem _ hu')⟩
 ·rintro ⟨r1,r2⟩ s' ⟨hr,rfl,_⟩
  simp only at hr
  subst hr
  exact wpAny_pure h
theorem pair_quiet {k:Pk} {a:Addr} {Q:Bool→Shared→Prop} (hk:pairIs P w s.heap k a) (h:Q true s):wpAny (model P w) A (eqIsQuiet 8 (.ref a)) Q E s:=by
 obtain ⟨o,n,b,c,e,ec,ed,h1,h2⟩:=hk
 have inner:∀ (ks:List Key) (d:Addr),(tk P w).is s.heap ks d→∀ (R:Bool→Shared→Prop),R true s→wpAny (model P w) A (eqIsQuiet 7 (.ref d)) R E s:=by
  intro ks d hd R hR
  obtain ⟨o2,its,n2,e2,c2,d2,hi⟩:=hd
  refine quiet_tuple e2 c2 d2 (fun v hv R' hR'=>?_) hR
  rw [eqIsQuiet_byValue _ (hi.byValue v hv)]
  exact wpAny_pure hR'
 refine quiet_tuple e ec ed (fun v hv R hR=>?_) h
 have hv':v=.ref b∨v=.ref c:=by simpa using hv
 rcases hv' with rfl | rfl
 ·exact inner _ _ h1 R hR
 ·exact inner _ _ h2 R hR
def pairKind (P:Program) (w:World):HeapKind P w Pk where
 is:=pairIs P w
 hash:=pairHash P w
 draws:=pairDraws P w
 room:=fun A=>A.units + 1 < cLine
 inj:=pair_inj
 keeps:=pair_keeps
 pyHash:=pair_hash
 eqBool:=pair_eq
 quiet:=pair_quiet
end
end L2
namespace L2
open PySem PySem.Spec PyProof.Rows
abbrev Pks:=List (Pk × Addr)
def pEnts (xs:Pks):List (Pk × Addr × Value):=xs.map fun x=>(x.1,x.2,Value.bool true)
def dNsays (P:Program) (w:World) (a:Addr) (xs:Pks) (h:Heap):Prop :=
 (a == sysModules)=false∧xs.length≤sizeLine∧∃ o es ep,h.get? a=some o∧o.ExactDict∧o.data=.dict es ep∧es.toList=(pEnts xs).map (entryOfKey (pairKind P w))∧(xs.map (·.1)).Nodup
def dN (P:Program) (w:World) (a:Addr) (xs:Pks):HO:=.ext (dNsays P w a xs)
def PairAt (H:Hp) (k:Pk) (t:Addr):Prop:=∃ b c,H t=some (.tup [.ref b,.ref c])∧H b=some (.tup (k.1.map kV))∧H c=some (.tup (k.2.map kV))
structure DN (P:Program) (w:World) (H:Hp) (a:Addr) (xs:Pks):Prop where
 at_:H a=some (dN P w a xs)
 keys:∀ x∈xs,PairAt H x.1 x.2
section
variable {P:Program} {w:World} {H H':Hp} {h:Heap} {a t:Addr} {k:Pk} {xs:Pks}
theorem PairAt.is (ok:HOk P w H h) (p:PairAt H k t):pairIs P w h k t:=by
 obtain ⟨b,c,e,e1,e2⟩:=p
 obtain ⟨_,its,r,o,h1,h2,n,h3⟩:=(show ObjOk P w H h t (.tup [.ref b,.ref c]) from ok t _ e)
 obtain ⟨u1,u2,rfl,r1,r2⟩:=vals2 r
 cases r1
 cases r2
 exact ⟨o,n,b,c,h1,h2,h3,key_of ok e1,key_of ok e2⟩
theorem PairAt.mono (p:PairAt H k t) (m:∀ b xs,H b=some (.tup xs)→H' b=some (.tup xs)):PairAt H' k t:=by
 obtain ⟨b,c,e,e1,e2⟩:=p
 exact ⟨b,c,m _ _ e,m _ _ e1,m _ _ e2⟩
theorem dN_ok {h':Heap} (s:dNsays P w a xs h'):ObjOk P w H h' a (dN P w a xs):=by
 obtain ⟨s1,s2,o,es,ep,e,r⟩:=id s
 exact ⟨s,⟨o,e⟩,fun h1 h2 q m=>let ⟨q1,q2,o,es,ep,e,r⟩:=q;⟨q1,q2,o,es,ep,m o e,r⟩⟩
theorem DN.says (d:DN P w H a xs) (ok:HOk P w H h):dNsays P w a xs h:=(ok a _ d.at_).1
theorem pEnts_keys:(pEnts xs).map (·.1)=xs.map (·.1):=by
 unfold pEnts
 rw [List.map_map]
 rfl
theorem DN.of (d:DN P w H a xs) (ok:HOk P w H h):h.DictOfH (pairKind P w) a (pEnts xs):=by
 obtain ⟨_,_,o,es,ep,e,e1,e2,e3,e4⟩:=d.says ok
 refine ⟨o,es,ep,e,e1,e2,e3,fun x hx=>?_,by rw [pEnts_keys];exact e4⟩
 obtain ⟨y,hy,rfl⟩:=List.mem_map.mp hx
 exact (d.keys y hy).is ok
theorem pEnts_at (k:Pk):∀ xs:Pks,(atKey (pEnts xs) k).isSome=xs.any fun x=>decide (x.1=k)
 | []=>rfl
 | x::r=>by
  have ih:=pEnts_at k r
  unfold atKey pEnts at ih ⊢
  rw [Option.isSome_map] at ih ⊢
  rw [List.map_cons,List.find?_cons,List.any_cons]
  by_cases e:x.1=k
  ·rw [decide_eq_true e]
   rfl
  ·rw [decide_eq_false e,Bool.false_or]
   exact ih
end
section
variable {X:Cx}
def rInN (X:Cx):R2:=fun x y H Q=>∃ t a k xs,x=.ref t∧y=.ref a∧DN X.prog X.w H a xs∧PairAt H k t∧Q (.bl (xs.any fun x=>decide (x.1=k))) H
theorem op_inN (hu:X.A.units + 2 < cLine):OpR X (compareOp .In) (rInN X):=by
 intro pins s σ H x y v u Q I rx ry h
 obtain ⟨t,a,k,xs,rfl,rfl,d,p,q⟩:=h
 cases rx
 cases ry
 refine wpAny_in_heap (knd:=pairKind X.prog X.w) (k:=k) (show X.A.in1.units + 1 < cLine from by show X.A.units + 1 + 1 < cLine;omega) (p.is I.hok) (d.says I.hok).1 (d.of I.hok) ?_
 rw [pEnts_at]
 exact ⟨.bl _,H,I.tok _,rfl,q⟩
def rSetN (X:Cx):V→V→V→Hp→(Hp→Prop)→Prop:=fun o i v H Q=>∃ t a k xs,o=.ref a∧i=.ref t∧v=.bl true∧DN X.prog X.w H a xs∧PairAt H k t∧(xs.any fun x=>decide (x.1=k))=false∧xs.length < sizeLine ∧
 Q (upd H a (dN X.prog X.w a (xs++[(k,t)])))
theorem DN.put {P:Program} {w:World} {H:Hp} {a t:Addr} {k:Pk} {xs:Pks} (d:DN P w H a xs) (p:PairAt H k t):DN P w (upd H a (dN P w a (xs++[(k,t)]))) a (xs++[(k,t)]):=by
 have m:∀ b ys,H b=some (.tup ys)→upd H a (dN P w a (xs++[(k,t)])) b=some (.tup ys):=fun b ys e=>by
  rw [upd_ne (ne_of e d.at_ (fun z=>nomatch z))]
  exact e
 refine ⟨upd_same,fun x hx=>?_⟩
 rcases List.mem_append.mp hx with hx | hx
 ·exact (d.keys x hx).mono m
 ·have e:x=(k,t):=by simpa using hx
  subst e
  exact p.mono m
theorem set_N (hu:X.A.units + 2 < cLine):PSet X (rSetN X):=by
 intro pins s σ H o i v ov iv u Q I ro ri rv h
 obtain ⟨t,a,k,xs,rfl,rfl,rfl,d,p,hn,hz,q⟩:=h
 cases ro
 cases ri
 have eu:u=.bool true:=rv
 subst eu
 have hsz:(pEnts xs).length≤sizeLine:=by unfold pEnts;rw [List.length_map];omega
 refine wpAny_setItem_heap (knd:=pairKind X.prog X.w) (k:=k) (hsz:=hsz) (show X.A.in1.units + 1 < cLine from by show X.A.units + 1 + 1 < cLine;omega) (p.is I.hok) (d.of I.hok) fun h' dd hs=>?_
 have hk:atKey (pEnts xs) k=none:=by
  have e:=pEnts_at k xs
  rw [hn] at e
  simpa using e
 rw [storedH_new hk] at dd
 obtain ⟨o,es,ep,e,e1,e2,e3,_,e5⟩:=dd
 have ex:pEnts xs++[(k,t,Value.bool true)]=pEnts (xs++[(k,t)]):=by unfold pEnts;rw [List.map_append];rfl
 rw [ex] at e3 e5
 rw [pEnts_keys] at e5
 refine ⟨_,d_write (t':=s.toks + (pairKind X.prog X.w).draws k) I (by rw [d.at_];exact True.intro) hs ⟨o,e⟩ (dN_ok ⟨(d.says I.hok).1,?_,o,es,ep,e,e1,e2,e3,e5⟩),q⟩
 rw [List.length_append]
 exact hz
def tDNewN (X:Cx):TE:=fun _ H Q=>∀ p,H p=none→Q (.ref p) (upd H p (dN X.prog X.w p []))
theorem pe_dnewN {pos:Pos}:PE X (.Dict [] [] pos) (tDNewN X):=fun pins s σ H Q I h =>
 wpAny_Dict_empty ⟨.ref s.heap.objs.size,_,I.laid (a:=s.heap.objs.size) (o:=dN X.prog X.w s.heap.objs.size []) (t':=s.toks) (fun _ _ q=>Heap.get?_push_of_some _ q) (Nat.le_refl _)
  (dN_ok ⟨beq_eq_false_iff_ne.mpr (Ne.symm (Nat.ne_of_lt I.big)),Nat.zero_le _,_,#[],0,Heap.get?_push_size _ rfl,⟨rfl,rfl,rfl⟩,rfl,rfl,List.nodup_nil⟩),rfl,h _ (I.hok.fresh (Nat.le_refl _))⟩
theorem DN.new {P:Program} {w:World} {H:Hp} {a:Addr}:DN P w (upd H a (dN P w a [])) a []:=⟨upd_same,fun _ z=>nomatch z⟩
theorem call_lenN:CallR X (.builtin "len") (fun xs H Q=>∃ a ys,xs=[V.ref a]∧DN X.prog X.w H a ys∧Q (.int ys.length) H):=by
 intro pins s σ H xs us Q I r h
 obtain ⟨a,ys,rfl,d,q⟩:=h
 obtain ⟨u,rfl,ru⟩:=vals1 r
 cases ru
 obtain ⟨hd,hz,o,es,ep,e,e1,e2,e3,_⟩:=d.says I.hok
 have hT:s.TypeIs (.ref a) "dict":=⟨o,e,e1.1⟩
 have hl:es.size=ys.length:=by
  rw [← Array.length_toList,e3,List.length_map]
  unfold pEnts
  rw [List.length_map]
 have hfit:((ys.length:Nat):Int) < 2 ^ 63:=by rw [sizeLine_eq] at hz;omega
 refine Calls.call_function_entry kind_len plain_len entry_len (args_len1 _) ?_
 unfold Builtin.«len»
 refine wpAny_bind (m:=oneArg "len" _) (wpAny_pure ?_)
 refine wpAny_bind (m:=callSpecial? (.ref a) (Str.ofString "__len__")) (wpAny_callSpecial?_slot (name:=Str.ofString "__len__") hT F.slot_dict_len (wpAny_call_entry F.slot_dict_len hT F.entry_dict_len ?_ (F.args_dict_len_1 _)))
 show wpAny _ _ (dictSize a >>= _) _ _ s
 unfold dictSize
 refine wpAny_bind (wpAny_bind (wpAny_dictEntries e e2 (wpAny_pure ?_)))
 refine wpAny_bind (wpAny_pendingCount_other hd ?_)
 refine wpAny_ret_mkInt ?_
 rw [hl]
 have e0:((ys.length:Nat):Int) + ((0:Nat):Int)=(ys.length:Int):=by simp
 rw [e0]
 refine wpAny_bind (wpAny_holding (wpAny_pure ?_))
 refine wpAny_bind (wpAny_letGo ?_)
 refine wpAny_ite ?_
 rw [if_neg (by omega)]
 refine wpAny_ite ?_
 rw [if_neg (by omega)]
 exact wpAny_bind (wpAny_mkInt (wpAny_pure ⟨_,rfl,.int ys.length,H,I.tok _,⟨_,rfl⟩,q⟩))
end
end L2
namespace L2
open PySem PySem.Spec PyProof.Rows CsS
section
variable {X:Cx} {pins:List (Addr × Obj)} {σ:St} {H:Hp} {s:Shared}
structure Mine (X:Cx) (pins:List (Addr × Obj)) (b:Addr):Prop where
 up:X.s_0.heap.objs.size≤b
 loc:b≠X.env.locals
 cel:∀ x c,X.env.cells.lookup x=some c→c≠b
 pin:∀ p∈X.pn++pins,p.1≠b
 fr:b∉frs X.stack
theorem Inv.mine (I:Inv X pins σ H s) {b:Addr} (h:s.heap.objs.size≤b):Mine X pins b:=by
 refine ⟨Nat.le_trans I.sz h,Nat.ne_of_gt (Nat.lt_of_lt_of_le I.lt h),fun x c e=>?_,fun p hp=>?_,fun z=>?_⟩
 ·obtain ⟨v,o,ho,_⟩:=I.cell x c e
  exact Nat.ne_of_lt (Nat.lt_of_lt_of_le (Heap.lt_size ho) h)
 ·exact Nat.ne_of_lt (Nat.lt_of_lt_of_le (Heap.lt_size (I.pin p hp).1) h)
 ·rcases List.mem_cons.mp (I.stkSub b z) with e | e
  ·exact absurd e (Nat.ne_of_gt (Nat.lt_of_lt_of_le I.lt h))
  ·exact I.nofs h e
theorem Inv.alter {b:Addr} {h':Heap} {t':Nat} (I:Inv X pins σ H s) (m:Mine X pins b) (hn:H b=none) (hs:Heap.SameBut b s.heap h'):Inv X pins σ H { s with heap:=h',toks:=t' } :=
 I.turned (it:=b) (fun c o hc e=>(hs.2 c hc).trans e) hn m.loc (.inr m.up) m.cel m.pin
theorem Inv.alterL {ch:List Addr} {h':Heap} {t':Nat} (I:Inv X pins σ H s) (m:∀ b∈ch,Mine X pins b) (hn:∀ b∈ch,H b=none) (k:∀ b o,b∉ch→s.heap.get? b=some o→h'.get? b=some o):Inv X pins σ H { s with heap:=h',toks:=t' }:=by
 have ne:∀ c u,H c=some u→c∉ch:=fun c u e z=>by rw [hn c z] at e;cases e
 refine I.step (g':=s.gens) (d':=s.drawn) (ch:=ch) (fun b hb=>⟨.inr (m b hb).up,(m b hb).loc,(m b hb).cel,(m b hb).pin⟩) (fun b o _ _ hc e _=>k b o hc e) (fun b o _ _ hc e _=>⟨o.slots,k b o hc e⟩) (fun _ _ _ _ n=>n)
  (fun b o hc e=>⟨o,k b o hc e⟩) (fun _ _ e=>e) (fun _ _ _ e=>e) (fun b ps e=>⟨#[],by rw [e];simp⟩) (fun q hq=>?_) (fun b u e=>?_) I.bare
 ·obtain ⟨o,es,ep,ho,r⟩:=hq
  exact ⟨o,es,ep,k _ o (fun z=>(m _ z).loc rfl) ho,r⟩
 ·refine (I.hok b u e).stay (fun c v hc q=>k c v ?_ q) (fun _ q=>q) fun _ _ q=>q
  rcases hc with z | z
  ·rw [z];exact ne b u e
  ·exact ne c _ z
theorem Inv.track {b:Addr} {o:HO} (I:Inv X pins σ H s) (m:Mine X pins b) (hn:H b=none) (new:ObjOk X.prog X.w (upd H b o) s.heap b o):Inv X pins σ (upd H b o) s:=by
 have ne:∀ c u,H c=some u→c≠b:=fun c u e z=>by rw [z,hn] at e;cases e
 refine I.step (g':=s.gens) (t':=s.toks) (d':=s.drawn) (h':=s.heap) (ch:=[b]) (fun c hc=>?_) (fun _ _ _ _ _ e _=>e) (fun _ u _ _ _ e _=>⟨u.slots,e⟩) (fun c u hc _ e=>?_) (fun _ u _ e=>⟨u,e⟩) (fun c xs e=>?_) (fun c u v e=>?_) (fun c ps e=>⟨#[],?_⟩) (fun _ h=>h) (fun c u e=>?_) I.bare
 ·have e:c=b:=by simpa using hc
  subst e
  exact ⟨.inr m.up,m.loc,m.cel,m.pin⟩
 ·rw [upd_ne (fun z=>hc (by simp [z]))];exact e
 ·rw [upd_ne (ne c _ e)];exact e
 ·rw [upd_ne (ne c _ e)];exact e
 ·rw [upd_ne (ne c _ e),Array.append_empty];exact e
 ·by_cases hc:c=b
  ·subst hc
   rw [upd_same] at e
   cases e
   exact new
  ·rw [upd_ne hc] at e
   exact (I.hok c u e).stay (fun d v _ q=>q) (fun d q=>by rw [upd_ne (ne d _ q)];exact q) fun d xs q=>by rw [upd_ne (ne d _ q)];exact q
end
end L2
namespace L2
open PySem PySem.Spec PyProof.Rows CsS
abbrev Kd:=Addr × Addr × List Int
section
variable {X:Cx} {k:Nat} {f:Addr} {fd:FuncData} {y:Str} {sp:Sp} {pins:List (Addr × Obj)} {σ:St} {H:Hp} {s:Shared}
def KeyP (sp:Sp) (H:Hp) (cs:List Kd):Prop:=∀ c∈cs,sp [.ref c.1] H (fun v H2=>v=.ref c.2.1∧H2=H) E0∧H c.2.1=some (.lst (c.2.2.map V.int))
theorem key_call (F:FnOk X.prog X.w X.K X.mg X.base CX0 k f fd [y] sp) (hr:Room (k + 2) X.A) (hb:Binds X.K fd [y] []) (I:Inv X pins σ H s) {c:Kd} (hp:sp [.ref c.1] H (fun v H2=>v=.ref c.2.1∧H2=H) E0)
  {Q:Value→Shared→Prop} {E:Value→Shared→Prop} (h:∀ s',Inv X pins σ H s'→(∀ b o,Mine X pins b→H b=none→s.heap.get? b=some o→s'.heap.get? b=some o)→Q (.ref c.2.1) s') :
  wpAny (model X.prog X.w) X.A.in1.in1 (call (.ref f) [.ref c.1]) Q E s:=by
 have r:Vals [V.ref c.1] [Value.ref c.1]:=.cons rfl .nil
 refine wpAny_call (codeAny_mono (F.run X.A.in1.in1 X.stack s H ⟨[.ref c.1],[]⟩ [.ref c.1] [.ref c.1] _ E0 hr.in1.in1 I.env0.in1.in1 (hb s [.ref c.1] I.kIn rfl) r hp) fun r s' hq=>?_)
 cases r with
 | error e=>exact hq.elim
 | ok fl =>
  cases fl with
  | ret u =>
   obtain ⟨v,H',os,bare,un,hok,rv,rfl,rfl⟩:=hq
   have hu:u=.ref c.2.1:=rv
   subst hu
   refine h s' ?_ fun b o m hn e=>un.keep b o e hn m.fr (by simp)
   obtain ⟨hh,g,d,t,os'⟩:=s'
   obtain rfl:os'=s.os:=os
   exact I.call (h':=hh) (g':=g) (d':=d) (t':=t) (ch:=[]) un hok bare (fun b z=>absurd z (by simp))
  | next=>exact False.elim hq
  | brk=>exact False.elim hq
  | cont=>exact False.elim hq
theorem keyed_list (I:Inv X pins σ H s) {a:Addr} {z:List Int} (h:H a=some (.lst (z.map V.int))):IsL s.heap (.ref a) z:=by
 obtain ⟨_,its,n,r,e⟩:=I.hok a _ h
 exact ⟨a,its.toArray,n,rfl,e,by simpa using Vals.ints r⟩
theorem sort_end {D kS:Addr} {cs:List Kd} {e e1:Nat} {P:PySem.Fin→Shared→Prop} {E:Value→Shared→Prop} (hu:X.A.in1.in1.units < cLine) (I:Inv X pins σ H s) (hz:cs.length≤sizeLine) (hD:s.heap.get? D=some (seqObj "list" #[] e1)) (hK:s.heap.get? kS=some (seqObj "list" (cs.map fun c=>Value.ref c.2.1).toArray e)) (hne:kS≠D)
  (hk:∀ c∈cs,H c.2.1=some (.lst (c.2.2.map V.int)))
  (h:∀ (h':Heap) (cs':List Kd),(∀ b o,b≠D→b≠kS→s.heap.get? b=some o→h'.get? b=some o)→cs'.Perm cs→cs'.Pairwise (fun p q=>lexI q.2.2 p.2.2=false)→(∃ n,h'.get? D=some (seqObj "list" (cs'.map fun c=>Value.ref c.1).toArray n))→(∃ o,h'.get? kS=some o)→P (.done (.ret .none)) { s with heap:=h' }) :
  wpAny (model X.prog X.w) X.A.in1.in1 (ksk_end D false (cs.map fun c=>Value.ref c.1).toArray e1 (.ref kS) (cs.map fun c=>Value.ref c.2.1).toArray) P E s:=by
 have hz':cs.length≤sizeLine + 1:=Nat.le_succ_of_le hz
 have hend:∀ (st:SortSt) (cs':List Kd),failedOf st=none→cs'.Perm cs→cs'.Pairwise (fun p q=>lexI q.2.2 p.2.2=false)→((arrOf st).map (·.2)).toList=cs'.map (fun c=>Value.ref c.1) →
   wpAny (model X.prog X.w) X.A.in1.in1 (ksk_tail D false e1 (.ref kS) st) P E s:=by
  intro st cs' hf hp hs hv
  unfold ksk_tail
  dsimp only
  refine wpAny_bind (listUpdate_at hK rfl ?_ (by simpa using hz) (Nat.zero_le _))
  refine wpAny_bind (wpAny_letGo ?_)
  have s1:=Heap.SameBut.update s.heap kS (Obj.mapSeq fun _=>(#[]:Array Value))
  have hD1:(s.heap.update kS (Obj.mapSeq fun _=>(#[]:Array Value))).get? D=some (seqObj "list" #[] e1):=(s1.2 D hne.symm).trans hD
  refine wpAny_bind (seqEpoch_at hD1 rfl ?_)
  have hsz:((arrOf st).map (·.2)).size=cs.length:=by
   rw [← Array.length_toList,hv,List.length_map,hp.length_eq]
  refine wpAny_bind (listUpdate_at hD1 rfl ?_ (Nat.zero_le _) (by show (if false=true then _ else _:Array Value).size≤_;rw [if_neg (by simp)];rw [hsz];exact hz'))
  rw [hf]
  simp only [bne_self_eq_false,Bool.false_eq_true,if_false]
  have s2:=Heap.SameBut.update (s.heap.update kS (Obj.mapSeq fun _=>(#[]:Array Value))) D (Obj.mapSeq fun _=>(arrOf st).map (·.2))
  have e2:=get?_update_seq hD1 fun _=>(arrOf st).map (·.2)
  have e3:(arrOf st).map (·.2)=(cs'.map fun c=>Value.ref c.1).toArray:=Array.toList_inj.mp (by rw [hv])
  refine wpAny_pure (h _ cs' (fun b o b1 b2 eb=>(s2.2 b b1).trans ((s1.2 b b2).trans eb)) hp hs ⟨_,e2.trans (congrArg (fun q=>some (seqObj "list" q _)) e3)⟩ ⟨_,(s2.2 kS hne).trans (get?_update_seq hK fun _=>#[])⟩)
 unfold ksk_end
 dsimp only
 rw [if_neg (by simp)]
 have sz:(cs.map fun c=>Value.ref c.1).toArray.size=cs.length:=by simp
 rw [sz]
 by_cases h2:cs.length < 2
 ·rw [if_pos h2,if_pos h2]
  refine wpAny_bind (wpAny_pure ?_)
  rw [StateT.run_pure]
  refine wpAny_bind (wpAny_pure ?_)
  refine hend _ cs rfl (.refl _) ?_ ?_
  ·match cs,h2 with
   | [],_=>exact .nil
   | [a],_=>exact List.pairwise_singleton _ _
   | a::b::r,h2=>simp at h2;omega
  ·show (((cs.map fun c=>Value.ref c.2.1).toArray.zip (cs.map fun c=>Value.ref c.1).toArray).map (·.2)).toList=_
   rw [Array.toList_map,ksk_zip,List.map_snd_zip (by simp)]
 ·rw [if_neg h2,if_neg h2]
  refine wpAny_bind (PySem.W.kas_kind (T:=.type "list") (by rw [List.length_map];omega) (fun v hv=>?_) rfl rfl ?_)
  ·obtain ⟨c,hc,rfl⟩:=List.mem_map.mp hv
   obtain ⟨a,xs,n,ea,eg,_⟩:=keyed_list I (hk c hc)
   cases ea
   exact fun A Q E s' keep hq=>wpAny_typeOf (s:=s') ⟨_,keep _ _ eg,rfl⟩ hq
  ·have hzip:((cs.map fun c=>Value.ref c.2.1).toArray.zip (cs.map fun c=>Value.ref c.1).toArray).toList=cs.map fun c=>(Value.ref c.2.1,Value.ref c.1):=by
    rw [ksk_zip,List.zip_map']
   refine wpAny_bind (wpAny_mono (sort_at (κ:=listKind s.heap) (kd:=oneType') (a0:=(cs.map fun c=>Value.ref c.2.1).toArray.zip (cs.map fun c=>Value.ref c.1).toArray)
    (Q:=fun _ st'=>failedOf st'=none∧∃ xs:List Keyed,xs.map (·.2)=((arrOf st').map (·.2)).toList∧xs.Perm ((cs.map fun c=>Value.ref c.2.1).toArray.zip (cs.map fun c=>Value.ref c.1).toArray).toList∧xs.Pairwise fun x y=>∀ a b,(listKind s.heap).keyOf x.1=some a→(listKind s.heap).keyOf y.1=some b→(listKind s.heap).blt b a=false)
    (list_ltIn hu) (fun p hp=>?_) rfl rfl rfl rfl (by simp;omega) fun st' a1 a2=>⟨a1,a2⟩) (fun r s' hq=>?_) fun _ _ z=>z)
   ·rw [hzip] at hp
    obtain ⟨c,hc,rfl⟩:=List.mem_map.mp hp
    exact ⟨c.2.2,intsOf_eq.mpr (keyed_list I (hk c hc))⟩
   ·obtain ⟨rfl,hf,xs,x1,x2,x3⟩:=hq
    rw [hzip] at x2
    obtain ⟨cs',c1,c2⟩:=perm_of_map _ _ _ x2
    subst c2
    refine hend r.2 cs' hf c1 ?_ ?_
    ·rw [List.pairwise_map] at x3
     refine x3.imp_of_mem fun {p q} mp mq hpq=>?_
     exact hpq _ _ (intsOf_eq.mpr (keyed_list I (hk p (c1.mem_iff.mp mp)))) (intsOf_eq.mpr (keyed_list I (hk q (c1.mem_iff.mp mq))))
    ·rw [← x1,List.map_map]
     rfl
theorem sort_keys (F:FnOk X.prog X.w X.K X.mg X.base CX0 k f fd [y] sp) (hr:Room (k + 2) X.A) (hb:Binds X.K fd [y] []) {D kS:Addr} {cs:List Kd} {e1:Nat} {P:PySem.Fin→Shared→Prop} {E:Value→Shared→Prop} (I:Inv X pins σ H s) (hz:cs.length≤sizeLine)
  (hD:s.heap.get? D=some (seqObj "list" #[] e1)) (hK:s.heap.get? kS=some (seqObj "list" #[] 0)) (hne:kS≠D) (mD:Mine X pins D) (mK:Mine X pins kS) (nD:H D=none) (nK:H kS=none) (hk:KeyP sp H cs)
  (h:∀ (s':Shared) (cs':List Kd),Inv X pins σ H s'→cs'.Perm cs→cs'.Pairwise (fun p q=>lexI q.2.2 p.2.2=false)→(∃ n,s'.heap.get? D=some (seqObj "list" (cs'.map fun c=>Value.ref c.1).toArray n))→P (.done (.ret .none)) s') :
  wpAny (model X.prog X.w) X.A.in1.in1 (ksk_rest D (.ref f) false (cs.map fun c=>Value.ref c.1).toArray e1 (.ref kS)) P E s:=by
 have hu:X.A.in1.in1.units < cLine:=(hr.in1.in1).units0
 unfold ksk_rest
 refine wpAny_bind (wpAny_rule ?_)
 rw [List.forIn_toArray]
 refine wpAny_bind (ksk_fold (fun i s'=>∃ e,Inv X pins σ H s'∧s'.heap.get? D=some (seqObj "list" #[] e1)∧s'.heap.get? kS=some (seqObj "list" ((cs.take i).map fun c=>Value.ref c.2.1).toArray e)) _ 0 s ⟨0,I,hD,hK⟩ ?step ?done)
 case step =>
  rintro j x s' hx ⟨e,I',hD',hK'⟩
  rw [Nat.zero_add] at hK' ⊢
  rw [List.getElem?_map] at hx
  cases hc:cs[j]? with
  | none=>rw [hc] at hx;cases hx
  | some c =>
   rw [hc] at hx
   cases hx
   have hj:j < cs.length:=(List.getElem?_eq_some_iff.mp hc).1
   have hm:c∈cs:=List.mem_of_getElem? hc
   refine wpAny_bind (wpAny_attempt (key_call F hr hb I' (hk c hm).1 fun s2 I2 keep=>?_))
   dsimp only
   have hD2:=keep D _ mD nD hD'
   have hK2:=keep kS _ mK nK hK'
   have htl:((cs.take j).map fun c=>Value.ref c.2.1).toArray.size≤sizeLine:=by
    simp
    omega
   refine wpAny_bind (listUpdate_at hK2 rfl ?_ htl (by rw [Array.size_push];omega))
   have s1:=Heap.SameBut.update s2.heap kS (Obj.mapSeq fun x=>x.push (Value.ref c.2.1))
   have e2:=get?_update_seq hK2 fun x=>x.push (Value.ref c.2.1)
   have e3:((cs.take j).map fun c=>Value.ref c.2.1).toArray.push (Value.ref c.2.1)=((cs.take (j + 1)).map fun c=>Value.ref c.2.1).toArray:=by
    rw [List.take_add_one,hc]
    simp
   refine wpAny_pure ⟨rfl,_,I2.alter (t':=s2.toks) mK nK s1,(s1.2 D hne.symm).trans hD2,e2.trans (congrArg (fun q=>some (seqObj "list" q _)) e3)⟩
 case done =>
  rintro s' ⟨e,I',hD',hK'⟩
  rw [Nat.zero_add,List.length_map,List.take_length] at hK'
  refine wpAny_bind (listItems_at hK' rfl ?_)
  refine sort_end hu I' hz hD' hK' hne (fun c hc=>(hk c hc).2) fun h' cs' keep p1 p2 p3 p4=>?_
  refine h _ cs' ?_ p1 p2 p3
  refine I'.alterL (ch:=[D,kS]) (t':=s'.toks) (fun b hb=>?_) (fun b hb=>?_) fun b o hb eb=>keep b o (fun z=>hb (by simp [z])) (fun z=>hb (by simp [z])) eb
  ·rcases List.mem_cons.mp hb with rfl | hb
   ·exact mD
   ·rw [List.mem_singleton.mp hb];exact mK
  ·rcases List.mem_cons.mp hb with rfl | hb
   ·exact nD
   ·rw [List.mem_singleton.mp hb];exact nK
def rSortK (K:PySem.W.Frag) (sp:Sp) (v:V) (H:Hp) (Q:VK):Prop:=∃ (a:Addr) (cs:List Kd),v=.ref a∧SqL K H a (cs.map fun c=>V.ref c.1)∧cs.length≤sizeLine∧KeyP sp H cs ∧
 ∀ (l:Addr) (cs':List Kd),H l=none→cs'.Perm cs→cs'.Pairwise (fun p q=>lexI q.2.2 p.2.2=false)→Q (.ref l) (upd H l (.lst (cs'.map fun c=>V.ref c.1)))
theorem refs_vals:∀ {cs:List Kd} {us:List Value},Vals (cs.map fun c=>V.ref c.1) us→us=cs.map fun c=>Value.ref c.1
 | [],_,.nil=>rfl
 | c::cs,_,.cons r t=>by
  have e:_=Value.ref c.1:=r
  rw [e,refs_vals t]
  rfl
theorem vals_refs:∀ (cs:List Kd),Vals (cs.map fun c=>V.ref c.1) (cs.map fun c=>Value.ref c.1)
 | []=>.nil
 | c::cs=>.cons rfl (vals_refs cs)
theorem call_sortK (F:FnOk X.prog X.w X.K X.mg X.base CX0 k f fd [y] sp) (hr:Room (k + 2) X.A) (hb:Binds X.K fd [y] []) (I:Inv X pins σ H s) {v:V} {u:Value} (rv:RelV v u) {Q:VK} (h:rSortK X.K sp v H Q) :
  wpAny (model X.prog X.w) X.A (call (.builtin "sorted") [u] [(Str.ofString "key",.ref f)]) (EP X pins σ Q) X.xe s:=by
 obtain ⟨a,cs,rfl,hS,hz,hk,h⟩:=h
 have hu:u=.ref a:=rv
 subst hu
 obtain ⟨its,hv,hl,_⟩:=Inv.list I hS
 have e0:=refs_vals hv
 subst e0
 obtain ⟨oL,nL,g1,g2,g3,g4⟩:=id hl
 have hIs:s.heap.IsList a (cs.map fun c=>Value.ref c.1).toArray:=⟨oL,g1,g2,nL,g4⟩
 have hzl:(cs.map fun c=>Value.ref c.1).length≤sizeLine:=by rw [List.length_map];exact hz
 refine call_function_entry_kw kind_sorted plain_sorted entry_sorted (ksk_s1 _ _) ?_
 unfold Builtin.«sorted»
 refine wpAny_bind (m:=checkCount "sorted" 1 1 _) (wpAny_pure ?_)
 refine wpAny_bind (collect_list hIs ?_ hzl)
 refine wpAny_bind (wpAny_newList ?_ hzl)
 generalize hv1:(s.heap.push (seqObj "list" #[] 0)).update s.heap.objs.size (Obj.mapSeq fun x=>x++(cs.map fun c=>Value.ref c.1).toArray)=v1
 have k1:∀ b o,s.heap.get? b=some o→v1.get? b=some o:=fun b o e=>by
  have hb:=Heap.lt_size e
  rw [← hv1,Heap.get?_update_ne _ _ _ _ (Nat.ne_of_lt hb)]
  exact Heap.get?_push_of_some _ e
 have z1:v1.objs.size=s.heap.objs.size + 1:=by rw [← hv1,Heap.size_update,size_push']
 have I1:Inv X pins σ H { s with heap:=v1,toks:=s.toks }:=I.kept k1
 dsimp only
 generalize hD:v1.objs.size=D
 generalize hv2:v1.push { cls:=Value.type "list",data:=Data.seq (cs.map fun c=>Value.ref c.1).toArray }=v2
 have k2:∀ b o,v1.get? b=some o→v2.get? b=some o:=fun b o e=>by rw [← hv2];exact Heap.get?_push_of_some _ e
 have g2D:v2.get? D=some (seqObj "list" (cs.map fun c=>Value.ref c.1).toArray 0):=by rw [← hv2,← hD];exact Heap.get?_push_size _ rfl
 have I2:Inv X pins σ H { s with heap:=v2,toks:=s.toks }:=I1.kept k2
 have mD:Mine X pins D:=I1.mine (Nat.le_of_eq hD)
 have nD:H D=none:=I1.hok.fresh (Nat.le_of_eq hD)
 refine wpAny_bind (wpAny_holding (wpAny_call_entry_kw slot_list_sort ⟨_,g2D,rfl⟩ entry_list_sort ?body (ksk_l1 _ _)))
 case body =>
  rw [ksk_t1]
  unfold ksk_tree
  refine wpAny_bind (listItems_at g2D rfl ?_)
  refine wpAny_bind (listUpdate_at g2D rfl ?_ (by simpa using hz) (Nat.zero_le _))
  have s3:=Heap.SameBut.update v2 D (Obj.mapSeq fun _=>(#[]:Array Value))
  have e3:=get?_update_seq g2D fun _=>(#[]:Array Value)
  dsimp only
  generalize (if ((#[]:Array Value).size == (cs.map fun c=>Value.ref c.1).toArray.size)=true then 0 else 0 + 1)=n3 at e3
  generalize v2.update D (Obj.mapSeq fun _=>(#[]:Array Value))=v3 at s3 e3 ⊢
  have I3:Inv X pins σ H { s with heap:=v3,toks:=s.toks }:=I2.alter mD nD s3
  refine wpAny_bind (seqEpoch_at e3 rfl ?_)
  refine wpAny_bind (wpAny_newTuple ?_ hzl)
  dsimp only
  generalize hv4:v3.push { cls:=Value.type "tuple",data:=Data.seq (cs.map fun c=>Value.ref c.1).toArray.toList.toArray }=v4
  have k4:∀ b o,v3.get? b=some o→v4.get? b=some o:=fun b o e=>by rw [← hv4];exact Heap.get?_push_of_some _ e
  have I4:Inv X pins σ H { s with heap:=v4,toks:=s.toks }:=I3.kept k4
  refine wpAny_bind (wpAny_newList ?_ (Nat.zero_le _))
  dsimp only
  generalize hkS:v4.objs.size=kS
  generalize hv5:v4.push { cls:=Value.type "list",data:=Data.seq (List.toArray []) }=v5
  have k5:∀ b o,v4.get? b=some o→v5.get? b=some o:=fun b o e=>by rw [← hv5];exact Heap.get?_push_of_some _ e
  have g5:v5.get? kS=some (seqObj "list" #[] 0):=by rw [← hv5,← hkS];exact Heap.get?_push_size _ rfl
  have I5:Inv X pins σ H { s with heap:=v5,toks:=s.toks }:=I4.kept k5
  have mK:Mine X pins kS:=I4.mine (Nat.le_of_eq hkS)
  have nK:H kS=none:=I4.hok.fresh (Nat.le_of_eq hkS)
  have g4:v4.get? D=some (seqObj "list" #[] n3):=k4 _ _ e3
  have hne:kS≠D:=by
   rw [← hkS]
   exact Nat.ne_of_gt (Heap.lt_size g4)
  refine wpAny_holding (sort_keys F hr hb I5 hz (k5 _ _ g4) g5 hne mD mK nD nK hk fun s' cs' I' p1 p2 p3=>⟨_,rfl,?_⟩)
  obtain ⟨n',p3⟩:=p3
  have hlen:(cs'.map fun c=>V.ref c.1).length≤sizeLine:=by rw [List.length_map,p1.length_eq];exact hz
  refine wpAny_pure ⟨_,rfl,.ref D,upd H D (.lst (cs'.map fun c=>V.ref c.1)),I'.track mD nD ⟨hlen,_,n',vals_refs cs',p3⟩,rfl,h D cs' nD p1 p2⟩
def tSortK (K:PySem.W.Frag) (sp:Sp) (te:TE):TE:=fun σ H Q=>tCons te tNil σ H fun vs H1=>∃ v,vs=[v]∧rSortK K sp v H1 Q
theorem pe_sortK {e:Expr} {te:TE} {x:Str} {p p' p'' pos:Pos} (F:FnOk X.prog X.w X.K X.mg X.base CX0 k f fd [y] sp) (hr:Room (k + 2) X.A) (hb:Binds X.K fd [y] []) (hg:Gl X "sorted") (hm:X.mg "sorted"=none) (hg':Gl X x) (hm':X.mg x=some (.ref f)) (he:PE X e te)
  (hs:starEach [e] X.env=[(false,eval e X.env)]:=by rfl) (hdb:(x == ("__debug__":Str))=false:=by decide):PE X (.Call (.Name "sorted" p) [e] [⟨some "key",.Name x p',p''⟩] pos) (tSortK X.K sp te):=by
 intro pins s σ H Q I h
 refine wpAny_Call_Name_kw (ld_blt I hg hm boot_sorted ?_ (by decide) (by decide))
 have ha:=pa_cons he pa_nil hs
 have hkw:PK X [⟨some "key",.Name x p',p''⟩] (tCons (tC (.ref f)) tNil):=pk_cons (pe_glob hg' hm' rfl hdb) pk_nil
 refine callWith_builtin_kwB (by rw [hs];rfl) rfl (evalArgs_kw2 rfl (thn (ha pos pins s σ H _ I h) fun us s1 ⟨vs,H1,I1,r,v,e,q⟩=>?_) hs)
 subst e
 refine thn (hkw pos pins s1 σ H1 (fun zs H2=>zs=[.ref f]∧H2=H1) I1 ⟨rfl,rfl⟩) fun ws s2 ⟨zs,H2,I2,rz,ez,eH⟩=>?_
 subst ez eH
 obtain ⟨u,rfl,ru⟩:=vals1 r
 obtain ⟨u',rfl,ru'⟩:=vals1 rz
 have e:u'=.ref f:=ru'
 subst e
 exact call_sortK F hr hb I2 ru q
end
end L2
namespace L2
open PySem PySem.Spec PyProof.Rows
theorem sqL_upd {K:PySem.W.Frag} {H:Hp} {a D:Addr} {o:HO} {xs:List V} (h:SqL K H a xs) (hD:H D=none):SqL K (upd H D o) a xs:=by
 rcases h with (h | ⟨ob,h⟩) | h
 ·exact .inl (.inl (by rw [upd_ne (ne_of_none h hD)];exact h))
 ·exact .inl (.inr ⟨ob,by rw [upd_ne (ne_of_none h hD)];exact h⟩)
 ·exact .inr h
theorem Same.seqT {K:PySem.W.Frag} {H H':Hp} {a:Addr} {xs:List V} (e:Same H H') (h:SqT K H a xs):SqT K H' a xs:=by
 rcases h with (h | ⟨ob,h⟩) | h
 ·exact .inl (.inl (e _ _ h))
 ·exact .inl (.inr ⟨ob,e _ _ h⟩)
 ·exact .inr h
theorem Same.new {H:Hp} {D:Addr} {o:HO} (hD:H D=none):Same H (upd H D o):=fun b u e=>by rw [upd_ne (ne_of_none e hD)];exact e
theorem Same.over {H H':Hp} {D:Addr} {o:HO} (hD:H D=none) (e:Same H H'):Same H (upd H' D o):=fun b u q=>by rw [upd_ne (ne_of_none q hD)];exact e b u q
section
variable {K:PySem.W.Frag} {a b:Addr} {xs ys:List V} {g:TG} {te:TE} {vs:List Nat} {σ:St} {H1:Hp} {D:Addr} {Qd:Hp→Prop}
def LcW (J:It) (g:TG) (tt:TT) (te:TE) (vs:List Nat) (σ:St) (H1:Hp) (D:Addr) (Qd:Hp→Prop):Prop :=
 ∃ W:Nat→Nat→Hp→Prop,(∃ m,W 0 m (upd H1 D (.lst [])))∧∀ i m H,W i m H →
  (J.stop i H∧Qd H)∨(J.go i H∧∃ Nx:Hp→Prop,(∀ H',Nx H'→∃ m',m' < m∧W (i + 1) m' H')∧∀ x H',J.yld i H x H'→g x (wipe σ vs) H' fun σ2 H2=>wipe σ2 vs=wipe σ vs∧tt σ2 H2 fun b H3 =>
   if b=true then te σ2 H3 fun y H4=>∃ acc,H4 D=some (.lst acc)∧acc.length < sizeLine∧Nx (upd H4 D (.lst (acc++[y]))) else Nx H3)
theorem range_snoc {f:Nat→V} (i:Nat):(List.range (i + 1)).map f=(List.range i).map f++[f i]:=by
 rw [List.range_succ,List.map_append]
 rfl
theorem lcl_map (F:Nat→V) (hz:xs.length≤sizeLine) (hD:H1 D=none) (ha:SqL K H1 a xs)
  (step:∀ i x H,xs[i]?=some x→Same H1 H→∀ R:VK,(∀ H3,Same H H3→R (F i) H3)→g x (wipe σ vs) H fun σ2 H2=>wipe σ2 vs=wipe σ vs∧te σ2 H2 R)
  (hd:∀ H,Same H1 H→H D=some (.lst ((List.range xs.length).map F))→Qd H):LcW (Itl K a) g tYes te vs σ H1 D Qd:=by
 refine ⟨fun i m H=>m=xs.length - i∧i≤xs.length∧Same H1 H∧H D=some (.lst ((List.range i).map F)),⟨xs.length,by simp,Nat.zero_le _,Same.new hD,upd_same⟩,?_⟩
 rintro i m H ⟨rfl,hi,sm,hH⟩
 have q:=sm.seq ha
 by_cases hlt:i < xs.length
 ·refine .inr ⟨⟨xs,xs[i],q,by simp [hlt]⟩,fun H'=>Same H1 H'∧H' D=some (.lst ((List.range (i + 1)).map F)),fun H' p'=>⟨xs.length - (i + 1),by omega,rfl,hlt,p'⟩,fun x H' y=>?_⟩
  obtain ⟨e,y⟩:=y
  subst e
  have w:=step i x H' (y xs q) sm (fun y H4=>∃ acc,H4 D=some (.lst acc)∧acc.length < sizeLine∧(Same H1 (upd H4 D (.lst (acc++[y])))∧upd H4 D (.lst (acc++[y])) D=some (.lst ((List.range (i + 1)).map F)))) fun H3 s3=>?_
  ·exact w
  ·refine ⟨_,s3 _ _ hH,?_,Same.over hD (sm.trans s3),?_⟩
   ·rw [List.length_map,List.length_range];omega
   ·rw [upd_same,range_snoc]
 ·have e:i=xs.length:=by omega
  subst e
  exact .inl ⟨⟨xs,q,Nat.le_refl _⟩,hd H sm hH⟩
theorem lcz_map (F:Nat→V) (hz:xs.length≤sizeLine) (hxy:ys.length=xs.length) (hD:H1 D=none) (ha:SqL K H1 a xs) (hb:SqL K H1 b ys)
  (step:∀ i x y T H,xs[i]?=some x→ys[i]?=some y→Same H1 H→H T=some (.tup [x,y])→∀ R:VK,(∀ H3,Same H H3→R (F i) H3)→g (.ref T) (wipe σ vs) H fun σ2 H2=>wipe σ2 vs=wipe σ vs∧te σ2 H2 R)
  (hd:∀ H,Same H1 H→H D=some (.lst ((List.range xs.length).map F))→Qd H):LcW (Itz K a b) g tYes te vs σ H1 D Qd:=by
 refine ⟨fun i m H=>m=xs.length - i∧i≤xs.length∧Same H1 H∧H D=some (.lst ((List.range i).map F)),⟨xs.length,by simp,Nat.zero_le _,Same.new hD,upd_same⟩,?_⟩
 rintro i m H ⟨rfl,hi,sm,hH⟩
 have qa:=sm.seq ha
 have qb:=sm.seq hb
 by_cases hlt:i < xs.length
 ·have hlt2:i < ys.length:=by omega
  refine .inr ⟨⟨xs,ys,xs[i],ys[i],qa,qb,by simp [hlt],by simp [hlt2]⟩,fun H'=>Same H1 H'∧H' D=some (.lst ((List.range (i + 1)).map F)),fun H' p'=>⟨xs.length - (i + 1),by omega,rfl,hlt,p'⟩,fun x H' y=>?_⟩
  obtain ⟨T,x1,y1,rfl,hT,rfl,f1,f2⟩:=y
  have s1:Same H (upd H T (.tup [x1,y1])):=Same.new hT
  have w:=step i x1 y1 T _ (f1 xs qa) (f2 ys qb) (sm.trans s1) upd_same (fun y H4=>∃ acc,H4 D=some (.lst acc)∧acc.length < sizeLine∧(Same H1 (upd H4 D (.lst (acc++[y])))∧upd H4 D (.lst (acc++[y])) D=some (.lst ((List.range (i + 1)).map F)))) fun H3 s3=>?_
  ·exact w
  ·refine ⟨_,s3 _ _ (s1 _ _ hH),?_,Same.over hD ((sm.trans s1).trans s3),?_⟩
   ·rw [List.length_map,List.length_range];omega
   ·rw [upd_same,range_snoc]
 ·have e:i=xs.length:=by omega
  subst e
  exact .inl ⟨⟨xs,ys,qa,qb,.inl (Nat.le_refl _)⟩,hd H sm hH⟩
end
section
variable {X:Cx}
theorem pe_const {x:Str} {v:V} {pos:Pos} (hg:Gl X x) (h:∃ u,X.mg x=some u∧RelV v u) (hd:(x == ("__debug__":Str))=false:=by decide):PE X (.Name x pos) (tC v):=by
 obtain ⟨u,hm,r⟩:=h
 exact pe_glob hg hm r hd
theorem pg_pair {x y:Str} {i j kk:Nat} {p1 p2 pos:Pos} (hc:X.calm=true) (hN:X.N.Nodup) (hi:X.N[i]?=some x) (hx:Loc X.env.scope x) (hj:X.N[j]?=some y) (hy:Loc X.env.scope y) (fx:X.fn x=true∨X.env.scope.names.lookup x=some .local) (fy:X.fn y=true∨X.env.scope.names.lookup y=some .local) :
  PG X (.Tuple [.Name x p1,.Name y p2] kk pos) (gTup X.K 2 (gCons (gName i) (gCons (gName j) gNil))) :=
 pg_tup (n:=2) hc (pgs_cons (pg_name hN hi hx (hf:=fx)) (pgs_cons (pg_name hN hj hy (hf:=fy)) pgs_nil))
end
end L2
namespace Cz
open PySem PySem.Spec PyProof.Rows
abbrev IsTri (h:Heap) (T:Addr) (a b c:Value):Prop:=h.get? T=some { cls:=.type "tuple",data:=.seq #[a,b,c] }
section
variable {prog:Program} {w:World} {A:Around} {E:Value→Shared→Prop} {s:Shared}
theorem upd_tri {T:Addr} {a b c x:Value} {k:Nat} {Q:Unit→Shared→Prop} (hT:IsTri s.heap T a b c)
  (h:∀ h',h'.get? T=some { cls:=.type "tuple",data:=.seq ((#[a,b,c]:Array Value).setIfInBounds k x) }→Heap.SameBut T s.heap h'→Q () { s with heap:=h' }) :
  wpAny (model prog w) A (updateSeq T (·.setIfInBounds k x)) Q E s:=by
 refine wpAny_updateSeq hT rfl (h _ ?_ (Heap.SameBut.update ..))
 rw [Heap.get?_update_self _ hT rfl]
 simp [Obj.mapSeq]
structure Zt (h:Heap) (n l1 l2 l3:Nat) (k:Nat) (f0:Value):Prop where
 z:IsZip h (n + 5) (n + 3) (n + 4) f0
 ti:IsTri h (n + 3) (.ref n) (.ref (n + 1)) (.ref (n + 2))
 to:∃ a b c,IsTri h (n + 4) a b c
 i1:h.IsListIter n l1 k
 i2:h.IsListIter (n + 1) l2 k
 i3:h.IsListIter (n + 2) l3 k
theorem lt5 (n:Nat) {i:Nat} (h:i < 5):n + i≠n + 5:=by omega
theorem next_item {n l1 l2 l3:Nat} {k:Nat} {xs ys zs:Array Value} {x y v:Value} {Q:Value→Shared→Prop} (b1:l1 < n) (b2:l2 < n) (b3:l3 < n)
  (Z:Zt s.heap n l1 l2 l3 k .none) (hl1:s.heap.IsList l1 xs) (hl2:s.heap.IsList l2 ys) (hl3:s.heap.IsList l3 zs) (hx:xs[k]?=some x) (hy:ys[k]?=some y) (hv:zs[k]?=some v)
  (hQ:∀ h',Zt h' n l1 l2 l3 (k + 1) (rawInt s.heap.objs.size)→IsTri h' s.heap.objs.size x y v→h'.objs.size=s.heap.objs.size + 1 →
   (∀ (c:Nat) (o:Obj),(c < n∨n + 5 < c)→s.heap.get? c=some o→h'.get? c=some o)→Q (.ref s.heap.objs.size) { s with heap:=h' }) :
  wpAny (model prog w) A (Builtin.«zip.__next__» ⟨[.ref (n + 5)],[]⟩) (fun fin s'=>∃ v,fin=.done (.ret v)∧Q v s') E s:=by
 obtain ⟨hz,hTI,⟨a,b,c,hTO⟩,h1,h2,h3⟩:=Z
 show wpAny _ _ (field (.ref (n + 5)) 2 >>= _) _ _ _
 refine wpAny_bind (wpAny_field hz rfl (x:=.bool false) rfl ?_)
 show wpAny _ _ (field (.ref (n + 5)) 3 >>= _) _ _ _
 refine wpAny_bind (wpAny_field hz rfl (x:=.ref (n + 3)) rfl ?_)
 refine wpAny_bind (wpAny_seqItems hTI rfl ?_)
 show wpAny _ _ (Builtin.SmallTypes.ownedTupleIsFree (.ref (n + 5)) >>= _) _ _ _
 refine wpAny_bind ?_
 unfold Builtin.SmallTypes.ownedTupleIsFree
 refine wpAny_bind (wpAny_field hz rfl (x:=.none) rfl (wpAny_pure ?_))
 simp only [if_true]
 refine wpAny_bind (wpAny_rule ?_)
 refine wpAny_bind (wpAny_field hz rfl (x:=.ref (n + 4)) rfl ?_)
 refine wpAny_bind (wpAny_setField_rec hz (by simp) fun g1 hz1 s1=>?_)
 replace hz1:IsZip g1 (n + 5) (n + 3) (n + 4) .ellipsis:=hz1
 refine wpAny_bind ?_
 simp only [List.zipIdx_cons,List.zipIdx_nil,List.forIn_cons,List.forIn_nil]
 have e1:∀ (c:Nat) (o:Obj),c≠n + 5→s.heap.get? c=some o→g1.get? c=some o:=fun c o q e=>s1.extBut c o q e
 refine wpAny_bind (wpAny_bind (wpAny_onRaise ?_))
 show wpAny _ _ (Builtin.SmallTypes.nextOf (.ref n) >>= _) _ _ _
 refine wpAny_bind (wpAny_nextOf_list_item (h1.at fun o e=>e1 _ o (by omega) e) (hl1.at fun o e=>e1 _ o (by omega) e) hx fun g2 i2 s2=>wpAny_pure ?_)
 have e2:∀ (c:Nat) (o:Obj),c≠n→g1.get? c=some o→g2.get? c=some o:=fun c o q e=>s2.extBut c o q e
 have t2:IsTri g2 (n + 4) a b c:=e2 _ _ (by omega) (e1 _ _ (by omega) hTO)
 refine wpAny_bind (wpAny_seqItems t2 rfl ?_)
 refine wpAny_bind (upd_tri t2 fun g3 t3 s3=>?_)
 replace t3:IsTri g3 (n + 4) x b c:=t3
 refine wpAny_bind (wpAny_letGo (wpAny_pure ?_))
 have e3:∀ (c:Nat) (o:Obj),c≠n + 4→g2.get? c=some o→g3.get? c=some o:=fun c o q e=>s3.extBut c o q e
 refine wpAny_bind (wpAny_bind (wpAny_onRaise ?_))
 show wpAny _ _ (Builtin.SmallTypes.nextOf (.ref (n + 1)) >>= _) _ _ _
 refine wpAny_bind (wpAny_nextOf_list_item (h2.at fun o e=>e3 _ o (by omega) (e2 _ o (by omega) (e1 _ o (by omega) e))) (hl2.at fun o e=>e3 _ o (by omega) (e2 _ o (by omega) (e1 _ o (by omega) e))) hy fun g4 i4 s4=>wpAny_pure ?_)
 have e4:∀ (c:Nat) (o:Obj),c≠n + 1→g3.get? c=some o→g4.get? c=some o:=fun c o q e=>s4.extBut c o q e
 have t4:IsTri g4 (n + 4) x b c:=e4 _ _ (by omega) t3
 refine wpAny_bind (wpAny_seqItems t4 rfl ?_)
 refine wpAny_bind (upd_tri t4 fun g5 t5 s5=>?_)
 replace t5:IsTri g5 (n + 4) x y c:=t5
 refine wpAny_bind (wpAny_letGo (wpAny_pure ?_))
 have e5:∀ (c:Nat) (o:Obj),c≠n + 4→g4.get? c=some o→g5.get? c=some o:=fun c o q e=>s5.extBut c o q e
 refine wpAny_bind (wpAny_bind (wpAny_onRaise ?_))
 show wpAny _ _ (Builtin.SmallTypes.nextOf (.ref (n + 2)) >>= _) _ _ _
 refine wpAny_bind (wpAny_nextOf_list_item (h3.at fun o e=>e5 _ o (by omega) (e4 _ o (by omega) (e3 _ o (by omega) (e2 _ o (by omega) (e1 _ o (by omega) e))))) (hl3.at fun o e=>e5 _ o (by omega) (e4 _ o (by omega) (e3 _ o (by omega) (e2 _ o (by omega) (e1 _ o (by omega) e))))) hv fun g6 i6 s6=>wpAny_pure ?_)
 have e6:∀ (c:Nat) (o:Obj),c≠n + 2→g5.get? c=some o→g6.get? c=some o:=fun c o q e=>s6.extBut c o q e
 have t6:IsTri g6 (n + 4) x y c:=e6 _ _ (by omega) t5
 refine wpAny_bind (wpAny_seqItems t6 rfl ?_)
 refine wpAny_bind (upd_tri t6 fun g7 t7 s7=>?_)
 replace t7:IsTri g7 (n + 4) x y v:=t7
 refine wpAny_bind (wpAny_letGo (wpAny_pure (wpAny_pure ?_)))
 have e7:∀ (c:Nat) (o:Obj),c≠n + 4→g6.get? c=some o→g7.get? c=some o:=fun c o q e=>s7.extBut c o q e
 refine wpAny_bind (wpAny_seqItems t7 rfl ?_)
 refine wpAny_bind (wpAny_newTuple ?_)
 have hsz:g7.objs.size=s.heap.objs.size:=by rw [s7.1,s6.1,s5.1,s4.1,s3.1,s2.1,s1.1]
 have ek:∀ (c:Nat) (o:Obj),c≠n + 5→c≠n + 4→c≠n→c≠n + 1→c≠n + 2→s.heap.get? c=some o→g7.get? c=some o:=fun c o c1 c2 c3 c4 c5 e =>
  e7 _ _ c2 (e6 _ _ c5 (e5 _ _ c2 (e4 _ _ c4 (e3 _ _ c2 (e2 _ _ c3 (e1 _ _ c1 e))))))
 have hz7:IsZip g7 (n + 5) (n + 3) (n + 4) .ellipsis:=e7 _ _ (by omega) (e6 _ _ (by omega) (e5 _ _ (by omega) (e4 _ _ (by omega) (e3 _ _ (by omega) (e2 _ _ (by omega) hz1)))))
 have q1:g7.IsListIter n l1 (k + 1):=i2.at fun o e=>e7 _ _ (by omega) (e6 _ _ (by omega) (e5 _ _ (by omega) (e4 _ _ (by omega) (e3 _ _ (by omega) e))))
 have q2:g7.IsListIter (n + 1) l2 (k + 1):=i4.at fun o e=>e7 _ _ (by omega) (e6 _ _ (by omega) (e5 _ _ (by omega) e))
 have q3:g7.IsListIter (n + 2) l3 (k + 1):=i6.at fun o e=>e7 _ _ (by omega) e
 have hlt:n + 5 < g7.objs.size:=Heap.lt_size hz7
 show wpAny _ _ (Builtin.SmallTypes.ownedTupleHandOut (.ref (n + 5)) (.ref g7.objs.size) >>= _) _ _ _
 refine wpAny_bind ?_
 unfold Builtin.SmallTypes.ownedTupleHandOut
 have hz8:IsZip (g7.push { cls:=.type "tuple",data:=.seq #[x,y,v] }) (n + 5) (n + 3) (n + 4) .ellipsis:=Heap.get?_push_of_some _ hz7
 refine wpAny_bind (wpAny_setField_rec hz8 (by simp) fun g9 hz9 s9=>?_)
 replace hz9:IsZip g9 (n + 5) (n + 3) (n + 4) (rawInt g7.objs.size):=hz9
 refine wpAny_setField_rec hz9 (by simp) fun g0 hz0 s0=>?_
 replace hz0:IsZip g0 (n + 5) (n + 3) (n + 4) (rawInt g7.objs.size):=hz0
 have up:∀ (c:Nat) (o:Obj),c≠n + 5→g7.get? c=some o→g0.get? c=some o:=fun c o c1 e=>s0.extBut _ _ c1 (s9.extBut _ _ c1 (Heap.get?_push_of_some _ e))
 have hT0:IsTri g0 g7.objs.size x y v:=s0.extBut _ _ (Nat.ne_of_gt hlt) (s9.extBut _ _ (Nat.ne_of_gt hlt) (Heap.get?_push_size _ rfl))
 have hs0:g0.objs.size=g7.objs.size + 1:=by rw [s0.1,s9.1,Heap.size_push]
 rw [hsz] at hz0 hT0 hs0
 refine wpAny_pure ⟨_,rfl,?_⟩
 show Q (.ref g7.objs.size) _
 rw [hsz]
 exact hQ g0 ⟨hz0,up _ _ (by omega) (ek _ _ (by omega) (by omega) (by omega) (by omega) (by omega) hTI),⟨_,_,_,up _ _ (by omega) t7⟩,q1.at fun o e=>up _ o (by omega) e,q2.at fun o e=>up _ o (by omega) e,q3.at fun o e=>up _ o (by omega) e⟩ hT0 hs0
  fun c o hc e=>up c o (by omega) (ek c o (by omega) (by omega) (by omega) (by omega) (by omega) e)
theorem next_end {n l1 l2 l3:Nat} {k:Nat} {xs:Array Value} {Q:Fin→Shared→Prop} (hh:A.handled=none) (b1:l1 < n)
  (Z:Zt s.heap n l1 l2 l3 k .none) (hl1:s.heap.IsList l1 xs) (hx:xs[k]?=none)
  (hE:∀ h' (e:Nat),(∀ (c:Nat) (o:Obj),(c < n∨n + 5 < c)→s.heap.get? c=some o→h'.get? c=some o)→(∃ o,h'.get? e=some o∧o.cls=.type "StopIteration")→E (.ref e) { s with heap:=h' }) :
  wpAny (model prog w) A (Builtin.«zip.__next__» ⟨[.ref (n + 5)],[]⟩) Q E s:=by
 obtain ⟨hz,hTI,⟨a,b,c,hTO⟩,h1,h2,h3⟩:=Z
 show wpAny _ _ (field (.ref (n + 5)) 2 >>= _) _ _ _
 refine wpAny_bind (wpAny_field hz rfl (x:=.bool false) rfl ?_)
 show wpAny _ _ (field (.ref (n + 5)) 3 >>= _) _ _ _
 refine wpAny_bind (wpAny_field hz rfl (x:=.ref (n + 3)) rfl ?_)
 refine wpAny_bind (wpAny_seqItems hTI rfl ?_)
 show wpAny _ _ (Builtin.SmallTypes.ownedTupleIsFree (.ref (n + 5)) >>= _) _ _ _
 refine wpAny_bind ?_
 unfold Builtin.SmallTypes.ownedTupleIsFree
 refine wpAny_bind (wpAny_field hz rfl (x:=.none) rfl (wpAny_pure ?_))
 simp only [if_true]
 refine wpAny_bind (wpAny_rule ?_)
 refine wpAny_bind (wpAny_field hz rfl (x:=.ref (n + 4)) rfl ?_)
 refine wpAny_bind (wpAny_setField_rec hz (by simp) fun g1 hz1 s1=>?_)
 replace hz1:IsZip g1 (n + 5) (n + 3) (n + 4) .ellipsis:=hz1
 refine wpAny_bind ?_
 simp only [List.zipIdx_cons,List.zipIdx_nil,List.forIn_cons,List.forIn_nil]
 have e1:∀ (c:Nat) (o:Obj),c≠n + 5→s.heap.get? c=some o→g1.get? c=some o:=fun c o q e=>s1.extBut c o q e
 refine wpAny_bind (wpAny_bind (wpAny_onRaise ?_))
 show wpAny _ _ (Builtin.SmallTypes.nextOf (.ref n) >>= _) _ _ _
 refine wpAny_bind (wpAny_nextOf_list_end hh (h1.at fun o e=>e1 _ o (by omega) e) (hl1.at fun o e=>e1 _ o (by omega) e) hx fun g2 e s2 he=>?_)
 obtain ⟨oe,hoe,hce⟩:=he
 have hz2:IsZip g2 (n + 5) (n + 3) (n + 4) .ellipsis:=s2 _ _ (show (n + 5:Nat)≠n by omega) hz1
 have hez:e≠n + 5:=fun x=>by subst x;rw [hz2] at hoe;cases hoe;simp at hce
 exact wpAny_setField_rec hz2 (by simp) fun g3 _ s3=>hE g3 e (fun c o q x=>s3.extBut _ _ (show c≠n + 5 by omega) (s2 _ _ (show c≠n by omega) (e1 _ _ (by omega) x))) ⟨oe,s3.extBut _ _ hez hoe,hce⟩
theorem pyNext_item {n l1 l2 l3:Nat} {k:Nat} {xs ys zs:Array Value} {x y v:Value} {Q:Option Value→Shared→Prop} (b1:l1 < n) (b2:l2 < n) (b3:l3 < n)
  (Z:Zt s.heap n l1 l2 l3 k .none) (hl1:s.heap.IsList l1 xs) (hl2:s.heap.IsList l2 ys) (hl3:s.heap.IsList l3 zs) (hx:xs[k]?=some x) (hy:ys[k]?=some y) (hv:zs[k]?=some v)
  (hQ:∀ h',Zt h' n l1 l2 l3 (k + 1) (rawInt s.heap.objs.size)→IsTri h' s.heap.objs.size x y v→h'.objs.size=s.heap.objs.size + 1 →
   (∀ (c:Nat) (o:Obj),(c < n∨n + 5 < c)→s.heap.get? c=some o→h'.get? c=some o)→Q (some (.ref s.heap.objs.size)) { s with heap:=h' }) :
  wpAny (model prog w) A (pyNext (.ref (n + 5))) Q E s:=by
 have hT:s.TypeIs (.ref (n + 5)) "zip":=⟨_,Z.z,rfl⟩
 unfold pyNext
 exact wpAny_bind (wpAny_attempt (wpAny_callSpecial?_slot (name:=Str.ofString "__next__") hT F.slot_zip_next
  (wpAny_call_entry F.slot_zip_next hT F.entry_zip_next
   (next_item b1 b2 b3 Z hl1 hl2 hl3 hx hy hv fun h' a1 a2 a3 a4=>wpAny_pure (hQ h' a1 a2 a3 a4)) (F.args_zip_next_1 _))))
theorem pyNext_end {n l1 l2 l3:Nat} {k:Nat} {xs:Array Value} {Q:Option Value→Shared→Prop} (hh:A.handled=none) (b1:l1 < n)
  (Z:Zt s.heap n l1 l2 l3 k .none) (hl1:s.heap.IsList l1 xs) (hx:xs[k]?=none)
  (hQ:∀ h',(∀ (c:Nat) (o:Obj),(c < n∨n + 5 < c)→s.heap.get? c=some o→h'.get? c=some o)→Q none { s with heap:=h' }):wpAny (model prog w) A (pyNext (.ref (n + 5))) Q E s:=by
 have hT:s.TypeIs (.ref (n + 5)) "zip":=⟨_,Z.z,rfl⟩
 unfold pyNext
 refine wpAny_bind (wpAny_attempt (wpAny_callSpecial?_slot (name:=Str.ofString "__next__") hT F.slot_zip_next
  (wpAny_call_entry F.slot_zip_next hT F.entry_zip_next (next_end hh b1 Z hl1 hx fun h' e hk he=>?_) (F.args_zip_next_1 _))))
 obtain ⟨o,ho,hc⟩:=he
 refine wpAny_bind (wpAny_isInstance (T:="StopIteration") (b:=true) ⟨o,ho,hc⟩ isSubtype_stop ?_)
 exact wpAny_pure (hQ _ hk)
end
theorem typeCall3 (a b c:Value):checkTypeCall "zip" ⟨[a,b,c],[]⟩=pure ():=by kernel_rfl
theorem newCall3 (a b c:Value):checkBuiltinCall "zip.__new__" ⟨[.type "zip",a,b,c],[]⟩=pure ():=by kernel_rfl
theorem args4 (a b c d:Value):argsOk "object.__init__" ⟨[a,b,c,d],[]⟩:=by
 unfold argsOk;rw [signature?_of (id:="object.__init__") (n:=['_','_','t','i','n','i','_','_']) (o:=['t','c','e','j','b','o']) (by kernel_rfl) F.owner_object];kernel_rfl
abbrev hA (h:Heap) (l1:Addr):Heap:=h.push { cls:=.type "list_iterator",data:=.fields #[.ref l1,.int 0 0] }
abbrev hB (h:Heap) (l1 l2:Addr):Heap:=(hA h l1).push { cls:=.type "list_iterator",data:=.fields #[.ref l2,.int 0 0] }
abbrev hC (h:Heap) (l1 l2 l3:Addr):Heap:=(hB h l1 l2).push { cls:=.type "list_iterator",data:=.fields #[.ref l3,.int 0 0] }
abbrev hD (h:Heap) (l1 l2 l3:Addr):Heap:=(hC h l1 l2 l3).push { cls:=.type "tuple",data:=.seq #[.ref h.objs.size,.ref (hA h l1).objs.size,.ref (hB h l1 l2).objs.size] }
abbrev hE (h:Heap) (l1 l2 l3:Addr):Heap:=(hD h l1 l2 l3).push { cls:=.type "tuple",data:=.seq #[.none,.none,.none] }
abbrev hF (h:Heap) (l1 l2 l3:Addr):Heap:=(hE h l1 l2 l3).push { cls:=.type "zip",data:=.fields #[.none,.bool false,.bool false,.ref (hC h l1 l2 l3).objs.size,.ref (hD h l1 l2 l3).objs.size] }
theorem meets_new (l1 l2 l3:Addr) (xs ys zs:Array Value) :
  Meets (Builtin.«zip.__new__» ⟨[.type "zip",.ref l1,.ref l2,.ref l3],[]⟩) (fun _ R s=>s.heap.IsList l1 xs∧s.heap.IsList l2 ys∧s.heap.IsList l3 zs ∧
   R (.ok (.ret (.ref (hE s.heap l1 l2 l3).objs.size))) { s with heap:=hF s.heap l1 l2 l3 }) :=
 .of_wp fun prog w A R s h=>by
  obtain ⟨hp,g,d,tk,os⟩:=s;obtain ⟨hl1,hl2,hl3,h⟩:=h
  have hsub:=sub_zip
  have hL1:Heap.IsList (Shared.heap ⟨hp,g,d,tk,os⟩) l1 xs:=hl1
  have hL2:Heap.IsList (Shared.heap ⟨hp.push { cls:=.type "list_iterator",data:=.fields #[.ref l1,.int 0 0] },g,d,tk,os⟩) l2 ys:=Heap.IsList.push hl2 _
  have hL3:Heap.IsList (Shared.heap ⟨(hp.push { cls:=.type "list_iterator",data:=.fields #[.ref l1,.int 0 0] }).push { cls:=.type "list_iterator",data:=.fields #[.ref l2,.int 0 0] },g,d,tk,os⟩) l3 zs:=Heap.IsList.push (Heap.IsList.push hl3 _) _
  wp_walk using wpAny_pyIter_list hL1,wpAny_pyIter_list hL2,wpAny_pyIter_list hL3
  exact ⟨_,rfl,h⟩
section
variable {prog:Program} {w:World} {A:Around} {E:Value→Shared→Prop} {s:Shared}
theorem call3 {l1 l2 l3:Addr} {xs ys zs:Array Value} {Q:Value→Shared→Prop} (hl1:s.heap.IsList l1 xs) (hl2:s.heap.IsList l2 ys) (hl3:s.heap.IsList l3 zs)
  (h:∀ h',Zt h' s.heap.objs.size l1 l2 l3 0 .none→h'.objs.size=s.heap.objs.size + 6 →
   (∀ c o,s.heap.get? c=some o→h'.get? c=some o)→Q (.ref (s.heap.objs.size + 5)) { s with heap:=h' }) :
  wpAny (model prog w) A (call (.type "zip") [.ref l1,.ref l2,.ref l3]) Q E s:=by
 refine callType_new F.called_zip (by decide) (typeCall3 _ _ _) (newCall3 _ _ _) (fun obj=>args4 obj _ _ _) F.entry_zip_new
  (meets_new l1 l2 l3 xs ys zs) ⟨hl1,hl2,hl3,?_⟩
 have z1:(hA s.heap l1).objs.size=s.heap.objs.size + 1:=Heap.size_push ..
 have z2:(hB s.heap l1 l2).objs.size=s.heap.objs.size + 2:=by rw [Heap.size_push,z1]
 have z3:(hC s.heap l1 l2 l3).objs.size=s.heap.objs.size + 3:=by rw [Heap.size_push,z2]
 have z4:(hD s.heap l1 l2 l3).objs.size=s.heap.objs.size + 4:=by rw [Heap.size_push,z3]
 have z5:(hE s.heap l1 l2 l3).objs.size=s.heap.objs.size + 5:=by rw [Heap.size_push,z4]
 have z6:(hF s.heap l1 l2 l3).objs.size=s.heap.objs.size + 6:=by rw [Heap.size_push,z5]
 have g6:(hF s.heap l1 l2 l3).get? (hE s.heap l1 l2 l3).objs.size=some _:=Heap.get?_push_size _ rfl
 have g5:(hF s.heap l1 l2 l3).get? (hD s.heap l1 l2 l3).objs.size=some _:=Heap.get?_push_of_some _ (Heap.get?_push_size _ rfl)
 have g4:(hF s.heap l1 l2 l3).get? (hC s.heap l1 l2 l3).objs.size=some _:=Heap.get?_push_of_some _ (Heap.get?_push_of_some _ (Heap.get?_push_size _ rfl))
 have g3:(hF s.heap l1 l2 l3).get? (hB s.heap l1 l2).objs.size=some _:=Heap.get?_push_of_some _ (Heap.get?_push_of_some _ (Heap.get?_push_of_some _ (Heap.get?_push_size _ rfl)))
 have g2:(hF s.heap l1 l2 l3).get? (hA s.heap l1).objs.size=some _:=Heap.get?_push_of_some _ (Heap.get?_push_of_some _ (Heap.get?_push_of_some _ (Heap.get?_push_of_some _ (Heap.get?_push_size _ rfl))))
 have g1:(hF s.heap l1 l2 l3).get? s.heap.objs.size=some _:=Heap.get?_push_of_some _ (Heap.get?_push_of_some _ (Heap.get?_push_of_some _ (Heap.get?_push_of_some _ (Heap.get?_push_of_some _ (Heap.get?_push_size _ rfl)))))
 show _∧_
 rw [z3,z4,z5] at g6
 rw [z4] at g5
 rw [z1,z2,z3] at g4
 rw [z2] at g3
 rw [z1] at g2
 rw [z5]
 exact ⟨⟨_,g6,rfl⟩,h _ ⟨g6,g4,⟨_,_,_,g5⟩,⟨_,g1,rfl,rfl⟩,⟨_,g2,rfl,rfl⟩,⟨_,g3,rfl,rfl⟩⟩ z6 fun c o x =>
  Heap.get?_push_of_some _ (Heap.get?_push_of_some _ (Heap.get?_push_of_some _ (Heap.get?_push_of_some _ (Heap.get?_push_of_some _ (Heap.get?_push_of_some _ x)))))⟩
end
end Cz
namespace L2
open PySem PySem.Spec PyProof.Rows
def It3 (K:PySem.W.Frag) (a b c:Addr):It :=
 ⟨fun i H=>∃ (xs ys zs:List V) (x y z:V),SqL K H a xs∧SqL K H b ys∧SqL K H c zs∧xs[i]?=some x∧ys[i]?=some y∧zs[i]?=some z,
  fun i H v H'=>∃ T x y z,v=.ref T∧H T=none∧H'=upd H T (.tup [x,y,z])∧(∀ xs,SqL K H a xs→xs[i]?=some x)∧(∀ ys,SqL K H b ys→ys[i]?=some y)∧∀ zs,SqL K H c zs→zs[i]?=some z,
  fun i H=>∃ xs:List V,SqL K H a xs∧xs.length≤i⟩
theorem turn3 {P:Program} {w:World} {K:PySem.W.Frag} {elts:List Expr} {kk:Nat} {tpos:Pos} {n a b c:Nat} (la:a < n) (lb:b < n) (lc:c < n) :
  Turn P w K (.Tuple elts kk tpos) (It3 K a b c) [n + 5,n + 3,n + 4,n,n + 1,n + 2] (n + 5) (fun i h=>Cz.Zt h n a b c i .none) where
 mem:=by simp
 obj:=fun i h st d hd=>by
  obtain ⟨hz,hTI,⟨x,y,z,hTO⟩,⟨o1,e1,_,d1⟩,⟨o2,e2,_,d2⟩,⟨o3,e3,_,d3⟩⟩:=st
  have e':d=n + 5∨d=n + 3∨d=n + 4∨d=n∨d=n + 1∨d=n + 2:=by simpa using hd
  rcases e' with q | q | q | q | q | q
  ·rw [q];exact ⟨_,hz,fun v q=>nomatch q⟩
  ·rw [q];exact ⟨_,hTI,fun v q=>nomatch q⟩
  ·rw [q];exact ⟨_,hTO,fun v q=>nomatch q⟩
  ·rw [q];exact ⟨o1,e1,fun v q=>by rw [d1] at q;cases q⟩
  ·rw [q];exact ⟨o2,e2,fun v q=>by rw [d2] at q;cases q⟩
  ·rw [q];exact ⟨o3,e3,fun v q=>by rw [d3] at q;cases q⟩
 keep:=fun i h h' st k=>by
  obtain ⟨hz,hTI,⟨x,y,z,hTO⟩,h1,h2,h3⟩:=st
  exact ⟨k (n + 5) (by simp) _ hz,k (n + 3) (by simp) _ hTI,⟨x,y,z,k (n + 4) (by simp) _ hTO⟩,h1.at fun o q=>k n (by simp) o q,h2.at fun o q=>k (n + 1) (by simp) o q,h3.at fun o q=>k (n + 2) (by simp) o q⟩
 item:=by
  intro X hP hw hK hc i pins s σ H E I hf st hg
  subst hP hw hK
  obtain ⟨xs,ys,zs,x,y,z,hqx,hqy,hqz,hx,hy,hz⟩:=hg
  obtain ⟨its,rv,p,_⟩:=I.list hqx
  obtain ⟨its2,rv2,p2,_⟩:=I.list hqy
  obtain ⟨its3,rv3,p3,_⟩:=I.list hqz
  obtain ⟨u,hu,ru⟩:=rv.get hx
  obtain ⟨u2,hu2,ru2⟩:=rv2.get hy
  obtain ⟨u3,hu3,ru3⟩:=rv3.get hz
  have hzl:n + 5 < s.heap.objs.size:=Heap.lt_size st.z
  have hout:∀ (d:Nat),d∉[n + 5,n + 3,n + 4,n,n + 1,n + 2]→d < n∨n + 5 < d:=fun d hd=>by
   simp only [List.mem_cons,List.not_mem_nil,or_false,not_or] at hd
   omega
  refine Cz.pyNext_item la lb lc st p.isList p2.isList p3.isList (x:=u) (y:=u2) (v:=u3) (by simpa using hu) (by simpa using hu2) (by simpa using hu3) fun h' z' hT hsz hk=>?_
  refine ⟨_,rfl,wpAny_letOwnedTupleGo_zip (s:={ s with heap:=h' }) z'.z fun h'' z'' sb=>?_⟩
  have nz:(s.heap.objs.size:Nat)≠n + 5:=by omega
  have hT2:h''.get? s.heap.objs.size=some { cls:=.type "tuple",data:=.seq #[u,u2,u3] }:=(sb.2 _ nz).trans hT
  have new:ObjOk X.prog X.w (upd H s.heap.objs.size (.tup [x,y,z])) h'' s.heap.objs.size (.tup [x,y,z]) :=
   ⟨by show 3≤sizeLine;decide,[u,u2,u3],.cons ru (.cons ru2 (.cons ru3 .nil)),⟨_,hT2,rfl,_,rfl⟩⟩
  have I1:Inv X pins σ (upd H s.heap.objs.size (.tup [x,y,z])) { s with heap:=h'' } :=
   I.turnedNew (t':=s.toks) (ch:=[n + 5,n + 3,n + 4,n,n + 1,n + 2]) (fun d o hb q=>(sb.2 d (fun q'=>hb (by simp [q']))).trans (hk d o (hout d hb) q)) hf (Nat.le_refl _) new
  have up:∀ (d:Nat) (o:Obj),d≠n + 5→h'.get? d=some o→h''.get? d=some o:=fun d o hd q=>(sb.2 _ hd).trans q
  obtain ⟨a1,a2,⟨b1,b2,b3,a3⟩,a4,a5,a6⟩:=z'
  refine ⟨.ref s.heap.objs.size,_,I1,rfl,⟨_,x,y,z,rfl,I.hok.fresh (Nat.le_refl _),rfl,fun l hl=>by rw [I.list_inj hl hqx];exact hx,fun l hl=>by rw [I.list_inj hl hqy];exact hy,fun l hl=>by rw [I.list_inj hl hqz];exact hz⟩,
   ⟨z'',up _ _ (by omega) a2,⟨b1,b2,b3,up _ _ (by omega) a3⟩,a4.at fun o q=>up _ _ (by omega) q,a5.at fun o q=>up _ _ (by omega) q,a6.at fun o q=>up _ _ (by omega) q⟩,fun d hd=>?_⟩
  have hlt:d < s.heap.objs.size:=by
   have e':@Eq Nat d (n + 5)∨@Eq Nat d (n + 3)∨@Eq Nat d (n + 4)∨@Eq Nat d n∨@Eq Nat d (n + 1)∨@Eq Nat d (n + 2):=by simpa using hd
   have:@LE.le Nat _ d (n + 5):=by omega
   exact Nat.lt_of_le_of_lt this hzl
  rw [upd_ne (Nat.ne_of_lt hlt)]
  exact (hf d hd).1
 done:=by
  intro X hP hw hK hc i pins s σ H E I hf st hg
  subst hP hw hK
  obtain ⟨xs,hqx,hend⟩:=hg
  obtain ⟨its,rv,p,_⟩:=I.list hqx
  have l1:=rv.length
  have hout:∀ (d:Nat),d∉[n + 5,n + 3,n + 4,n,n + 1,n + 2]→d < n∨n + 5 < d:=fun d hd=>by
   simp only [List.mem_cons,List.not_mem_nil,or_false,not_or] at hd
   omega
  exact Cz.pyNext_end (I.ok.hd hc) la st p.isList (by simp;omega) fun h' hk=>⟨rfl,I.turnedL (t':=s.toks) (ch:=[n + 5,n + 3,n + 4,n,n + 1,n + 2]) (fun d o hb q=>hk d o (hout d hb) q) hf⟩
 self:=fun A i s Q E st h=>wpAny_pyIter_zip st.z h
def iZip3 (K:PySem.W.Frag) (ta:TA):TI:=fun σ H R=>ta σ H fun vs H1=>∃ a b c xs ys zs,vs=[.ref a,.ref b,.ref c]∧SqL K H1 a xs∧SqL K H1 b ys∧SqL K H1 c zs∧R (It3 K a b c) H1
theorem pi_zip3 {X:Cx} {e e2 e3:Expr} {ta:TA} {p pos tpos:Pos} {elts:List Expr} {kk:Nat} (hg:Gl X "zip") (hm:X.mg "zip"=none) (ha:PA X [e,e2,e3] ta)
  (hs:starEach [e,e2,e3] X.env=(false,eval e X.env)::starEach [e2,e3] X.env:=by rfl) (hpl:(backTo pos (starEach [e2,e3] X.env)).any (·.1)=false:=by rfl) :
  PI X (.Tuple elts kk tpos) (.Call (.Name "zip" p) [e,e2,e3] [] pos) (iZip3 X.K ta):=by
 intro pins s σ H R I h
 refine Call_ (ld_blt I hg hm boot_zip5 (PyProof.Rows.callWith_type1 (thn (ha pos pins s σ H _ I h) fun us s1 ⟨vs,H1,I1,r1,q1⟩=>?_) hs hpl))
 obtain ⟨a,b,c,xs,ys,zs,ex,hqx,hqy,hqz,q⟩:=q1
 subst ex
 cases r1 with
 | cons r rr =>
  cases rr with
  | cons r' rr =>
   cases rr with
   | cons r2 rr =>
    cases rr
    cases r
    cases r'
    cases r2
    obtain ⟨its,rv,p1,_⟩:=I1.list hqx
    obtain ⟨its2,rv2,p2,_⟩:=I1.list hqy
    obtain ⟨its3,rv3,p3,_⟩:=I1.list hqz
    have la:a < s1.heap.objs.size:=p1.lt
    have lb:b < s1.heap.objs.size:=p2.lt
    have lc:c < s1.heap.objs.size:=p3.lt
    refine Cz.call3 p1.isList p2.isList p3.isList fun h' hz hsz hk=>wpAny_pyIter_zip hz.z ?_
    have I2:Inv X pins σ H1 { s1 with heap:=h' }:=I1.kept (t':=s1.toks) hk
    refine ⟨s1.heap.objs.size + 5,[s1.heap.objs.size + 5,s1.heap.objs.size + 3,s1.heap.objs.size + 4,s1.heap.objs.size,s1.heap.objs.size + 1,s1.heap.objs.size + 2],_,_,H1,rfl,I2,turn3 la lb lc,hz,fun d hd=>?_,q⟩
    have e':d=s1.heap.objs.size + 5∨d=s1.heap.objs.size + 3∨d=s1.heap.objs.size + 4∨d=s1.heap.objs.size∨d=s1.heap.objs.size + 1∨d=s1.heap.objs.size + 2:=by simpa using hd
    have hle:s1.heap.objs.size≤d:=by
     rcases e' with z | z | z | z | z | z <;> rw [z] <;> first | exact Nat.le_add_right _ _ | exact Nat.le_refl _
    exact I1.fpOk hle (I1.hok.fresh hle)
section
variable {K:PySem.W.Frag} {a b c:Addr} {xs ys zs:List V} {g:TG} {te:TE} {vs:List Nat} {σ:St} {H1:Hp} {D:Addr} {Qd:Hp→Prop}
theorem lcz3_map (F:Nat→V) (hz:xs.length≤sizeLine) (hxy:ys.length=xs.length) (hxz:zs.length=xs.length) (hD:H1 D=none) (ha:SqL K H1 a xs) (hb:SqL K H1 b ys) (hc:SqL K H1 c zs)
  (step:∀ i x y z T H,xs[i]?=some x→ys[i]?=some y→zs[i]?=some z→Same H1 H→H T=some (.tup [x,y,z])→∀ R:VK,(∀ H3,Same H H3→R (F i) H3)→g (.ref T) (wipe σ vs) H fun σ2 H2=>wipe σ2 vs=wipe σ vs∧te σ2 H2 R)
  (hd:∀ H,Same H1 H→H D=some (.lst ((List.range xs.length).map F))→Qd H):LcW (It3 K a b c) g tYes te vs σ H1 D Qd:=by
 refine ⟨fun i m H=>m=xs.length - i∧i≤xs.length∧Same H1 H∧H D=some (.lst ((List.range i).map F)),⟨xs.length,by simp,Nat.zero_le _,Same.new hD,upd_same⟩,?_⟩
 rintro i m H ⟨rfl,hi,sm,hH⟩
 have qa:=sm.seq ha
 have qb:=sm.seq hb
 have qc:=sm.seq hc
 by_cases hlt:i < xs.length
 ·have hlt2:i < ys.length:=by omega
  have hlt3:i < zs.length:=by omega
  refine .inr ⟨⟨xs,ys,zs,xs[i],ys[i],zs[i],qa,qb,qc,by simp [hlt],by simp [hlt2],by simp [hlt3]⟩,fun H'=>Same H1 H'∧H' D=some (.lst ((List.range (i + 1)).map F)),fun H' p'=>⟨xs.length - (i + 1),by omega,rfl,hlt,p'⟩,fun x H' y=>?_⟩
  obtain ⟨T,x1,y1,z1,rfl,hT,rfl,f1,f2,f3⟩:=y
  have s1:Same H (upd H T (.tup [x1,y1,z1])):=Same.new hT
  have w:=step i x1 y1 z1 T _ (f1 xs qa) (f2 ys qb) (f3 zs qc) (sm.trans s1) upd_same (fun y H4=>∃ acc,H4 D=some (.lst acc)∧acc.length < sizeLine∧(Same H1 (upd H4 D (.lst (acc++[y])))∧upd H4 D (.lst (acc++[y])) D=some (.lst ((List.range (i + 1)).map F)))) fun H3 s3=>?_
  ·exact w
  ·refine ⟨_,s3 _ _ (s1 _ _ hH),?_,Same.over hD ((sm.trans s1).trans s3),?_⟩
   ·rw [List.length_map,List.length_range];omega
   ·rw [upd_same,range_snoc]
 ·have e:i=xs.length:=by omega
  subst e
  exact .inl ⟨⟨xs,qa,Nat.le_refl _⟩,hd H sm hH⟩
theorem lcl_filter {tt:TT} (F:V→Bool) (hz:xs.length≤sizeLine) (hD:H1 D=none) (ha:SqL K H1 a xs)
  (step:∀ (i:Nat) x H,xs[i]?=some x→Same H1 H→∀ (R:Hp→Prop) (Y:VK),(F x=true→Y x H)→(F x=false→R H)→g x (wipe σ vs) H fun σ2 H2=>wipe σ2 vs=wipe σ vs∧tt σ2 H2 fun b H3=>if b=true then te σ2 H3 Y else R H3)
  (hd:∀ H,Same H1 H→H D=some (.lst (xs.filter F))→Qd H):LcW (Itl K a) g tt te vs σ H1 D Qd:=by
 refine ⟨fun i m H=>m=xs.length - i∧i≤xs.length∧Same H1 H∧H D=some (.lst ((xs.take i).filter F)),⟨xs.length,by simp,Nat.zero_le _,Same.new hD,upd_same⟩,?_⟩
 rintro i m H ⟨rfl,hi,sm,hH⟩
 have q:=sm.seq ha
 by_cases hlt:i < xs.length
 ·refine .inr ⟨⟨xs,xs[i],q,by simp [hlt]⟩,fun H'=>Same H1 H'∧H' D=some (.lst ((xs.take (i + 1)).filter F)),fun H' p'=>⟨xs.length - (i + 1),by omega,rfl,hlt,p'⟩,fun x H' y=>?_⟩
  obtain ⟨e,y⟩:=y
  subst e
  have hx:=y xs q
  have etk:(xs.take (i + 1)).filter F=(xs.take i).filter F++(if F x=true then [x] else []):=by
   rw [List.take_add_one,hx,List.filter_append]
   show _++List.filter F [x]=_
   rw [List.filter_cons,List.filter_nil]
  have lenF:((xs.take i).filter F).length≤i:=Nat.le_trans (List.length_filter_le _ _) (by rw [List.length_take];omega)
  refine step i x H' hx sm _ _ (fun hb=>?_) (fun hb=>?_)
  ·refine ⟨_,hH,by omega,Same.over hD sm,?_⟩
   rw [upd_same,etk,if_pos hb]
  ·refine ⟨sm,?_⟩
   rw [etk,if_neg (by rw [hb];simp),List.append_nil]
   exact hH
 ·have e:i=xs.length:=by omega
  subst e
  rw [List.take_length] at hH
  exact .inl ⟨⟨xs,q,Nat.le_refl _⟩,hd H sm hH⟩
end
section
variable {X:Cx}
theorem pg_tri {x y z:Str} {i j l kk:Nat} {p1 p2 p3 pos:Pos} (hc:X.calm=true) (hN:X.N.Nodup) (hi:X.N[i]?=some x) (hx:Loc X.env.scope x) (hj:X.N[j]?=some y) (hy:Loc X.env.scope y) (hl:X.N[l]?=some z) (hz:Loc X.env.scope z) (fx:X.fn x=true∨X.env.scope.names.lookup x=some .local) (fy:X.fn y=true∨X.env.scope.names.lookup y=some .local) (fz:X.fn z=true∨X.env.scope.names.lookup z=some .local) :
  PG X (.Tuple [.Name x p1,.Name y p2,.Name z p3] kk pos) (gTup X.K 3 (gCons (gName i) (gCons (gName j) (gCons (gName l) gNil)))) :=
 pg_tup (n:=3) hc (pgs_cons (pg_name hN hi hx (hf:=fx)) (pgs_cons (pg_name hN hj hy (hf:=fy)) (pgs_cons (pg_name hN hl hz (hf:=fz)) pgs_nil)))
def rInsert:V→List V→Hp→VK→Prop:=fun o vs H Q=>∃ (l:Addr) (xs:List V) (x:Int) (i:Nat) (y:V),o=.ref l∧vs=[.int x,y]∧x=(i:Int)∧H l=some (.lst xs)∧i≤xs.length∧xs.length≤1000∧Q .non (upd H l (.lst (xs.take i++y::xs.drop i)))
theorem mt_insert:MtM X "list.insert" rInsert:=by
 intro pins s σ H o vs v us Q I rx rv h
 obtain ⟨l,xs,x,i,y,rfl,rfl,hx,hH,hi,hz,q⟩:=h
 cases rx
 obtain ⟨u1,u,rfl,r1,ru⟩:=Vals.two rv
 obtain ⟨tk,rfl⟩:=(show ∃ t',u1=Value.int x t' from r1)
 obtain ⟨z,its,n,r,hl,e⟩:=I.lstM hH
 have hsz2:its.toArray.size≤sizeLine:=by rw [List.size_toArray,← hl];exact z
 have hfit:¬ (!Builtin.List.listFitsIndex x)=true:=by
  rw [fitsIndex_both (k:=x) (by omega) (by omega)]
  decide
 refine call_meets F.slot_list_insert ⟨_,e,rfl⟩ F.entry_list_insert (F.args_list_insert_3 _ _ _) (AutoSeq1.list_insert_list_int_val_1 l its.toArray n x tk u hfit hsz2) ⟨e,?_⟩
 refine ⟨.non,_,I.lset (its':=its.take i++u::its.drop i) hH e ?_ ((r.take i).append (.cons ru (r.drop i))) ?_,rfl,q⟩
 ·have hneg:¬ (x < 0):=by omega
  have hmin:min x.toNat its.toArray.size=i:=by rw [List.size_toArray];omega
  show (its.toArray.extract 0 (if x < 0 then (x + (its.toArray.size:Int)).toNat else min x.toNat its.toArray.size)).push u++its.toArray.extract (if x < 0 then (x + (its.toArray.size:Int)).toNat else min x.toNat its.toArray.size)=_
  rw [if_neg hneg,hmin]
  apply Array.ext'
  simp
  exact List.take_of_length_le (by rw [List.length_drop];exact Nat.le_refl _)
 ·rw [List.length_append,List.length_cons,List.length_take,List.length_drop]
  have:xs.length + 1≤1001:=by omega
  have h2:(1001:Nat)≤sizeLine:=by decide
  omega
end
end L2
namespace CsM
open PySem
theorem and_pow:∀ b:Fin 64,∀ c:Fin 7,decide (Builtin.bitAnd (b.val:Int) ((2 ^ c.val:Nat):Int)≠0)=Vbcjaj.bitOf b.val c.val:=by decide +kernel
theorem and_sub:∀ b c:Fin 64,decide (Builtin.bitAnd (b.val:Int) (c.val:Int)=(b.val:Int))=Vbcjaj.within_ b.val c.val:=by decide +kernel
theorem or_join:∀ b c:Fin 64,Builtin.bitOr (b.val:Int) (c.val:Int)=((Vbcjaj.join b.val c.val:Nat):Int):=by decide +kernel
theorem join_lt:∀ b c:Fin 64,Vbcjaj.join b.val c.val < 64:=by decide +kernel
end CsM
namespace Cs
inductive Shp:Int→List Int→List (List Int)→Vbcjaj.Call→Prop
 | c0 (a:List Int):Shp 0 [] [a] (.props a)
 | c1 (m w:Int) (a b c:List Int):Shp 1 [m,w] [a,b,c] (.trick m w a b c)
 | c2 (m:Int) (a b:List Int):Shp 2 [m] [a,b] (.reset m a b)
 | c3 (m w:Int) (a:List Int):Shp 3 [m,w] [a] (.hall m w a)
 | c4:Shp 4 [] [] .told
 | c5 (a:List Int):Shp 5 [] [a] (.runs a)
 | c6 (m:Int):Shp 6 [m] [] (.plan m)
 | c7 (a:List Int):Shp 7 [] [a] (.start a)
 | c8 (m:Int):Shp 8 [m] [] (.begin_ m)
 | c9 (m:Int):Shp 9 [m] [] (.send m)
 | c10 (m:Int):Shp 10 [m] [] (.lose m)
 | c11 (m:Int):Shp 11 [m] [] (.double m)
 | c12 (m:Int):Shp 12 [m] [] (.deliver m)
 | c13 (m:Int):Shp 13 [m] [] (.tick m)
 | c14 (a:List Int):Shp 14 [] [a] (.finish a)
 | c15 (m:Int):Shp 15 [m] [] (.glance m)
 | c16:Shp 16 [] [] .state
 | c17:Shp 17 [] [] .log
 | c18:Shp 18 [] [] .wire
 | c19:Shp 19 [] [] .close
theorem len1 {α:Type} {l:List α} (h:l.length=1):∃ a,l=[a]:=match l,h with
 | [a],_=>⟨a,rfl⟩
theorem len2 {α:Type} {l:List α} (h:l.length=2):∃ a b,l=[a,b]:=match l,h with
 | [a,b],_=>⟨a,b,rfl⟩
theorem len3 {α:Type} {l:List α} (h:l.length=3):∃ a b c,l=[a,b,c]:=match l,h with
 | [a,b,c],_=>⟨a,b,c,rfl⟩
theorem shape_range {p:Int} {n k:Nat} (h:PyVbcjaj.shape p=some (n,k)):0≤p∧p≤19:=by
 by_cases hp:0≤p∧p≤19
 ·exact hp
 ·unfold PyVbcjaj.shape at h
  rw [if_neg (by omega),if_neg (by omega),if_neg (by omega),if_neg (by omega),if_neg (by omega),if_neg (by omega),if_neg (by omega),if_neg (by omega),if_neg (by omega),if_neg (by omega),if_neg (by omega),if_neg (by omega),if_neg (by omega),if_neg (by omega),if_neg (by omega),if_neg (by omega),if_neg (by omega),if_neg (by omega),if_neg (by omega),if_neg (by omega)] at h
  cases h
theorem shp_of {p:Int} {n k:Nat} {xs:List Int} {rows:List (List Int)} (h:PyVbcjaj.shape p=some (n,k)) (hx:xs.length=n) (hr:rows.length=k):∃ d,Shp p xs rows d:=by
 have hp:=shape_range h
 have hp2:p=0∨p=1∨p=2∨p=3∨p=4∨p=5∨p=6∨p=7∨p=8∨p=9∨p=10∨p=11∨p=12∨p=13∨p=14∨p=15∨p=16∨p=17∨p=18∨p=19:=by omega
 have r01:n=0→k=1→∃ a,xs=[]∧rows=[a]:=fun e1 e2=>by
  obtain ⟨a,q⟩:=len1 (hr.trans e2)
  exact ⟨a,List.length_eq_zero_iff.mp (hx.trans e1),q⟩
 have r10:n=1→k=0→∃ m,xs=[m]∧rows=[]:=fun e1 e2=>by
  obtain ⟨a,q⟩:=len1 (hx.trans e1)
  exact ⟨a,q,List.length_eq_zero_iff.mp (hr.trans e2)⟩
 have r00:n=0→k=0→xs=[]∧rows=[]:=fun e1 e2=>⟨List.length_eq_zero_iff.mp (hx.trans e1),List.length_eq_zero_iff.mp (hr.trans e2)⟩
 rcases hp2 with rfl | rfl | rfl | rfl | rfl | rfl | rfl | rfl | rfl | rfl | rfl | rfl | rfl | rfl | rfl | rfl | rfl | rfl | rfl | rfl
 ·cases (show some (0,1)=some (n,k) from h);obtain ⟨a,rfl,rfl⟩:=r01 rfl rfl;exact ⟨_,.c0 a⟩
 ·cases (show some (2,3)=some (n,k) from h)
  obtain ⟨m,w,rfl⟩:=len2 hx
  obtain ⟨a,b,c,rfl⟩:=len3 hr
  exact ⟨_,.c1 m w a b c⟩
 ·cases (show some (1,2)=some (n,k) from h)
  obtain ⟨m,rfl⟩:=len1 hx
  obtain ⟨a,b,rfl⟩:=len2 hr
  exact ⟨_,.c2 m a b⟩
 ·cases (show some (2,1)=some (n,k) from h)
  obtain ⟨m,w,rfl⟩:=len2 hx
  obtain ⟨a,rfl⟩:=len1 hr
  exact ⟨_,.c3 m w a⟩
 ·cases (show some (0,0)=some (n,k) from h);obtain ⟨rfl,rfl⟩:=r00 rfl rfl;exact ⟨_,.c4⟩
 ·cases (show some (0,1)=some (n,k) from h);obtain ⟨a,rfl,rfl⟩:=r01 rfl rfl;exact ⟨_,.c5 a⟩
 ·cases (show some (1,0)=some (n,k) from h);obtain ⟨a,rfl,rfl⟩:=r10 rfl rfl;exact ⟨_,.c6 a⟩
 ·cases (show some (0,1)=some (n,k) from h);obtain ⟨a,rfl,rfl⟩:=r01 rfl rfl;exact ⟨_,.c7 a⟩
 ·cases (show some (1,0)=some (n,k) from h);obtain ⟨a,rfl,rfl⟩:=r10 rfl rfl;exact ⟨_,.c8 a⟩
 ·cases (show some (1,0)=some (n,k) from h);obtain ⟨a,rfl,rfl⟩:=r10 rfl rfl;exact ⟨_,.c9 a⟩
 ·cases (show some (1,0)=some (n,k) from h);obtain ⟨a,rfl,rfl⟩:=r10 rfl rfl;exact ⟨_,.c10 a⟩
 ·cases (show some (1,0)=some (n,k) from h);obtain ⟨a,rfl,rfl⟩:=r10 rfl rfl;exact ⟨_,.c11 a⟩
 ·cases (show some (1,0)=some (n,k) from h);obtain ⟨a,rfl,rfl⟩:=r10 rfl rfl;exact ⟨_,.c12 a⟩
 ·cases (show some (1,0)=some (n,k) from h);obtain ⟨a,rfl,rfl⟩:=r10 rfl rfl;exact ⟨_,.c13 a⟩
 ·cases (show some (0,1)=some (n,k) from h);obtain ⟨a,rfl,rfl⟩:=r01 rfl rfl;exact ⟨_,.c14 a⟩
 ·cases (show some (1,0)=some (n,k) from h);obtain ⟨a,rfl,rfl⟩:=r10 rfl rfl;exact ⟨_,.c15 a⟩
 ·cases (show some (0,0)=some (n,k) from h);obtain ⟨rfl,rfl⟩:=r00 rfl rfl;exact ⟨_,.c16⟩
 ·cases (show some (0,0)=some (n,k) from h);obtain ⟨rfl,rfl⟩:=r00 rfl rfl;exact ⟨_,.c17⟩
 ·cases (show some (0,0)=some (n,k) from h);obtain ⟨rfl,rfl⟩:=r00 rfl rfl;exact ⟨_,.c18⟩
 ·cases (show some (0,0)=some (n,k) from h);obtain ⟨rfl,rfl⟩:=r00 rfl rfl;exact ⟨_,.c19⟩
theorem Shp.call {p:Int} {xs:List Int} {rows:List (List Int)} {d:Vbcjaj.Call} (h:Shp p xs rows d):VbcjajNeutral.callOf ((p::xs)::rows)=some d:=by cases h <;> rfl
theorem Shp.whole {p:Int} {xs:List Int} {rows:List (List Int)} {d:Vbcjaj.Call} (h:Shp p xs rows d):PyVbcjaj.whole ((p::xs)::rows)=(p::xs)::rows:=by cases h <;> rfl
theorem row30 {a r:List Int} (h:((a.all fun z=>VbcjajNeutral.whole60 z) && decide (a.length≤30))=true) (hr:r∈[a]):r.length≤30:=by
 rw [Bool.and_eq_true] at h
 have e:r=a:=by simpa using hr
 rw [e]
 exact of_decide_eq_true h.2
theorem Shp.short {p:Int} {xs:List Int} {rows:List (List Int)} {d:Vbcjaj.Call} (h:Shp p xs rows d) (ha:VbcjajNeutral.asked1 ((p::xs)::rows)=true):∀ r∈rows,r.length≤30:=by
 intro r hr
 cases h with
 | c0 a=>exact row30 ha hr
 | c5 a=>exact row30 ha hr
 | c7 a=>exact row30 ha hr
 | c14 a=>exact row30 ha hr
 | c1 m w a b c =>
  have q:(VbcjajNeutral.whole60 m && (VbcjajNeutral.whole60 w && (((a.all fun z=>VbcjajNeutral.whole60 z) && decide (a.length≤30)) && (((b.all fun z=>VbcjajNeutral.whole60 z) && decide (b.length≤30)) && ((c.all fun z=>VbcjajNeutral.whole60 z) && decide (c.length≤30))))))=true:=ha
  simp only [Bool.and_eq_true,decide_eq_true_eq] at q
  simp only [List.mem_cons,List.not_mem_nil,or_false] at hr
  rcases hr with rfl | rfl | rfl
  ·exact q.2.2.1.2
  ·exact q.2.2.2.1.2
  ·exact q.2.2.2.2.2
 | c2 m a b =>
  have q:(VbcjajNeutral.whole60 m && (((a.all fun z=>VbcjajNeutral.whole60 z) && decide (a.length≤30)) && ((b.all fun z=>VbcjajNeutral.whole60 z) && decide (b.length≤30))))=true:=ha
  simp only [Bool.and_eq_true,decide_eq_true_eq] at q
  simp only [List.mem_cons,List.not_mem_nil,or_false] at hr
  rcases hr with rfl | rfl
  ·exact q.2.1.2
  ·exact q.2.2.2
 | c3 m w a =>
  have q:(VbcjajNeutral.whole60 m && (VbcjajNeutral.whole60 w && ((a.all fun z=>VbcjajNeutral.whole60 z) && decide (a.length≤30))))=true:=ha
  simp only [Bool.and_eq_true] at q
  exact row30 (by rw [Bool.and_eq_true];exact q.2.2) hr
 | _=>cases hr
end Cs
namespace CsM
open Vbcjaj
theorem lessPlan_irrefl:∀ a:List Nat,lessPlan a a=false
 | []=>rfl
 | x::r=>by simp [lessPlan,lessPlan_irrefl r]
theorem lessPlan_asymm:∀ a b:List Nat,lessPlan a b=true→lessPlan b a=false
 | _,[],h=>by cases ‹List Nat› <;> simp [lessPlan] at h
 | [],_::_,_=>rfl
 | a::r,b::q,h=>by
  simp [lessPlan] at h ⊢
  rcases h with h | ⟨h,h'⟩
  ·refine ⟨by omega,fun e=>by omega⟩
  ·subst h
   exact ⟨Nat.le_refl _,fun _=>lessPlan_asymm r q h'⟩
theorem lessPlan_total:∀ a b:List Nat,lessPlan a b=false→lessPlan b a=false→a=b
 | [],[],_,_=>rfl
 | [],_::_,h,_=>by simp [lessPlan] at h
 | _::_,[],_,h=>by simp [lessPlan] at h
 | a::r,b::q,h,h'=>by
  simp [lessPlan] at h h'
  have e:a=b:=by omega
  subst e
  rw [lessPlan_total r q (h.2 rfl) (h'.2 rfl)]
theorem lessPlan_trans:∀ a b c:List Nat,lessPlan a b=true→lessPlan b c=true→lessPlan a c=true
 | _,[],_,h,_=>by cases ‹List Nat› <;> simp [lessPlan] at h
 | _,_::_,[],_,h=>by simp [lessPlan] at h
 | [],_::_,_::_,_,_=>rfl
 | a::r,b::q,c::p,h,h'=>by
  simp [lessPlan] at h h' ⊢
  rcases h with h | ⟨h,g⟩
  ·rcases h' with h' | ⟨h',g'⟩
   ·exact .inl (by omega)
   ·exact .inl (by omega)
  ·rcases h' with h' | ⟨h',g'⟩
   ·exact .inl (by omega)
   ·exact .inr ⟨by omega,lessPlan_trans r q p g g'⟩
theorem lessPlan_neg {a b c:List Nat} (h:lessPlan a b=false) (g:lessPlan b c=false):lessPlan a c=false:=by
 cases e:lessPlan a c with
 | false=>rfl
 | true =>
  cases e1:lessPlan b a with
  | true=>rw [lessPlan_trans b a c e1 e] at g;cases g
  | false =>
   have:=lessPlan_total a b h e1
   subst this
   rw [e] at g;cases g
theorem sooner_asymm {a b:Waiting} (h:sooner a b=true):sooner b a=false:=by
 simp [sooner] at h ⊢
 rcases h with h | ⟨h,g⟩
 ·exact ⟨by omega,fun e=>by omega⟩
 ·exact ⟨by omega,fun _=>lessPlan_asymm _ _ g⟩
theorem sooner_neg {a b c:Waiting} (h:sooner a b=false) (g:sooner b c=false):sooner a c=false:=by
 simp [sooner] at h g ⊢
 refine ⟨by omega,fun e=>?_⟩
 exact lessPlan_neg (h.2 (by omega)) (g.2 (by omega))
theorem sooner_same {a b:Waiting} (h:sooner a b=false) (g:sooner b a=false):a.plan=b.plan:=by
 simp [sooner] at h g
 exact lessPlan_total _ _ (h.2 (by omega)) (g.2 (by omega))
theorem sooner_irrefl (a:Waiting):sooner a a=false:=by simp [sooner,lessPlan_irrefl]
theorem pick_least:∀ (l:List Waiting),l≠[]→∃ y r,pick l=some (y,r)∧l.Perm (y::r)∧∀ x∈l,sooner x y=false
 | [],h=>absurd rfl h
 | x::l,_=>by
  unfold pick
  by_cases hl:l=[]
  ·subst hl
   exact ⟨x,[],rfl,.refl _,fun z hz=>by
    have e:z=x:=by simpa using hz
    subst e;exact sooner_irrefl z⟩
  ·obtain ⟨y,r,e,hp,hm⟩:=pick_least l hl
   rw [e]
   dsimp only
   by_cases hs:sooner y x=true
   ·rw [if_pos hs]
    refine ⟨y,x::r,rfl,(hp.cons x).trans (List.Perm.swap y x r),fun z hz=>?_⟩
    rcases List.mem_cons.mp hz with rfl | hz
    ·exact sooner_asymm hs
    ·exact hm z hz
   ·rw [if_neg hs]
    have hs':sooner y x=false:=by simpa using hs
    refine ⟨x,l,rfl,.refl _,fun z hz=>?_⟩
    rcases List.mem_cons.mp hz with rfl | hz
    ·exact sooner_irrefl z
    ·exact sooner_neg (hm z hz) hs'
def Det (h:House) (x:Waiting):Prop:=∃ k,goAll h k (fresh h) x.plan=.ok x.going
theorem goAll_place (h:House):∀ (l:List Nat) (k j:Nat) (g x:Going),goAll h k g l=.ok x→goAll h j g l=.ok x
 | [],_,_,_,_,e=>e
 | i::l,k,j,g,x,e=>by
  unfold goAll at e ⊢
  cases hg:goOn h g i with
  | error z=>rw [hg] at e;cases e
  | ok y =>
   rw [hg] at e
   exact goAll_place h l (k + 1) (j + 1) y x e
theorem goAll_snoc (h:House):∀ (l:List Nat) (k i:Nat) (g x y:Going),goAll h k g l=.ok x→goOn h x i=.ok y→goAll h k g (l++[i])=.ok y
 | [],k,i,g,x,y,e,e'=>by
  cases e
  show goAll h k g [i]=_
  unfold goAll
  rw [e']
  rfl
 | j::l,k,i,g,x,y,e,e'=>by
  show goAll h k g (j::(l++[i]))=_
  unfold goAll at e ⊢
  cases hg:goOn h g j with
  | error z=>rw [hg] at e;cases e
  | ok z =>
   rw [hg] at e
   exact goAll_snoc h l (k + 1) i z x y e e'
theorem Det.one {h:House} {a b:Waiting} (ha:Det h a) (hb:Det h b) (e:a.plan=b.plan):a=b:=by
 obtain ⟨k,ha⟩:=ha
 obtain ⟨j,hb⟩:=hb
 have h1:=goAll_place h _ _ j _ _ ha
 rw [e,hb] at h1
 have h2:b.going=a.going:=by injection h1
 cases a;cases b
 simp at e h2
 rw [e,h2]
theorem Det.fresh (h:House):Det h ⟨fresh h,[]⟩:=⟨0,rfl⟩
theorem mem_further {h:House} {w x:Waiting} (hx:x∈further h w):∃ i,i∈items h∧goOn h w.going i=.ok x.going∧x.plan=w.plan++[i]:=by
 unfold further at hx
 obtain ⟨i,hi,e⟩:=List.mem_filterMap.mp hx
 cases hg:goOn h w.going i with
 | error z=>rw [hg] at e;cases e
 | ok g =>
  rw [hg] at e
  cases e
  exact ⟨i,hi,hg,rfl⟩
theorem Det.further {h:House} {w x:Waiting} (hw:Det h w) (hx:x∈further h w):Det h x:=by
 obtain ⟨i,_,hg,hp⟩:=mem_further hx
 obtain ⟨k,hw⟩:=hw
 exact ⟨k,by rw [hp];exact goAll_snoc h _ k i _ _ _ hw hg⟩
def Long (h:House):Prop:=∀ i t,itemAt h i=some t→1≤t.minutes
theorem goOn_minutes {h:House} {g x:Going} {i:Nat} (hl:Long h) (e:goOn h g i=.ok x):g.minutes < x.minutes∧x.minutes≤h.limit:=by
 unfold goOn at e
 cases ht:itemAt h i with
 | none=>rw [ht] at e;cases e
 | some t =>
  rw [ht] at e
  dsimp only at e
  have:=hl i t ht
  split at e
  ·cases e
  ·split at e
   ·cases e
   ·split at e
    ·cases e
    ·cases e
     exact ⟨by show g.minutes < g.minutes + t.minutes;omega,by show g.minutes + t.minutes≤h.limit;omega⟩
abbrev Bs:=Nat→List Waiting
def push (bs:Bs) (w:Waiting):Bs:=fun k=>if k=w.going.minutes then bs k++[w] else bs k
def from_ (bs:Bs) (a n:Nat):List Waiting:=(List.range' a n).flatMap bs
theorem from_zero (bs:Bs) (a:Nat):from_ bs a 0=[]:=rfl
theorem from_succ (bs:Bs) (a n:Nat):from_ bs a (n + 1)=bs a++from_ bs (a + 1) n:=by
 unfold from_
 rw [List.range'_succ,List.flatMap_cons]
theorem push_out {bs:Bs} {w:Waiting}:∀ (n a:Nat),(w.going.minutes < a∨a + n≤w.going.minutes)→from_ (push bs w) a n=from_ bs a n
 | 0,_,_=>rfl
 | n + 1,a,h=>by
  rw [from_succ,from_succ,push_out n (a + 1) (by omega)]
  have:push bs w a=bs a:=by unfold push;rw [if_neg (by omega)]
  rw [this]
theorem push_in {bs:Bs} {w:Waiting}:∀ (n a:Nat),a≤w.going.minutes→w.going.minutes < a + n→(from_ (push bs w) a n).Perm (w::from_ bs a n)
 | 0,a,h,h'=>by omega
 | n + 1,a,h,h'=>by
  rw [from_succ,from_succ]
  by_cases e:a=w.going.minutes
  ·have e1:push bs w a=bs a++[w]:=by unfold push;rw [if_pos e]
   rw [e1,push_out n (a + 1) (by omega),List.append_assoc]
   exact List.perm_middle
  ·have e1:push bs w a=bs a:=by unfold push;rw [if_neg e]
   rw [e1]
   exact ((push_in n (a + 1) (by omega) (by omega)).append_left _).trans List.perm_middle
def pushAll (bs:Bs) (l:List Waiting):Bs:=l.foldl push bs
theorem pushAll_in:∀ (l:List Waiting) (bs:Bs) (n a:Nat),(∀ x∈l,a≤x.going.minutes∧x.going.minutes < a + n)→(from_ (pushAll bs l) a n).Perm (l++from_ bs a n)
 | [],_,_,_,_=>.refl _
 | w::l,bs,n,a,h=>by
  have h1:=h w List.mem_cons_self
  refine (pushAll_in l (push bs w) n a fun x hx=>h x (List.mem_cons_of_mem _ hx)).trans ?_
  refine ((push_in n a h1.1 h1.2).append_left l).trans ?_
  exact List.perm_middle
abbrev Keys:=List (List Nat × Sets)
structure Mid (h:House) (S:Found) (steps:Nat) (l:List Waiting) (keys:Keys):Prop where
 ex:∃ f sl seen l',S=search h f sl seen l'∧l'.Perm l∧l.length + sl * (items h).length + 1≤f∧sl + keys.length=steps∧∀ k,seen.contains k=keys.contains k
 det:∀ x∈l,Det h x
theorem Mid.perm {h:House} {S:Found} {steps:Nat} {l m:List Waiting} {keys:Keys} (M:Mid h S steps l keys) (p:l.Perm m):Mid h S steps m keys:=by
 obtain ⟨f,sl,seen,l',e,q,hf,hs,hk⟩:=M.ex
 exact ⟨⟨f,sl,seen,l',e,q.trans p,by rw [← p.length_eq];exact hf,hs,hk⟩,fun x hx=>M.det x (p.mem_iff.mpr hx)⟩
theorem Mid.start (h:House) (steps:Nat):Mid h (plan h steps) steps [⟨fresh h,[]⟩] []:=by
 refine ⟨⟨rounds h steps,steps,[],_,rfl,.refl _,?_,rfl,fun _=>rfl⟩,fun x hx=>?_⟩
 ·unfold rounds
  rw [Nat.succ_mul,Nat.mul_succ]
  simp
  omega
 ·have e:x=⟨Vbcjaj.fresh h,[]⟩:=by simpa using hx
  rw [e];exact Det.fresh h
theorem Mid.done {h:House} {S:Found} {steps:Nat} {keys:Keys} (M:Mid h S steps [] keys):S=.none:=by
 obtain ⟨f,sl,seen,l',e,q,hf,_⟩:=M.ex
 have e1:l'=[]:=List.perm_nil.mp q
 subst e1
 cases f with
 | zero=>simp at hf
 | succ f=>rw [e];rfl
def keyOf (w:Waiting):List Nat × Sets:=(w.going.done,w.going.beliefs)
def Least (w:Waiting) (l:List Waiting):Prop:=∀ x∈l,sooner x w=false
theorem Mid.take {h:House} {S:Found} {steps:Nat} {w:Waiting} {r:List Waiting} {keys:Keys} (M:Mid h S steps (w::r) keys) (hm:Least w r) :
  (keys.contains (keyOf w)=true→Mid h S steps r keys) ∧
  (keys.contains (keyOf w)=false→whole_ h w.going=true→S=.plan w) ∧
  (keys.contains (keyOf w)=false→whole_ h w.going=false→keys.length=steps→S=.spent) ∧
  (keys.contains (keyOf w)=false→whole_ h w.going=false→keys.length≠steps→keys.length < steps∧Mid h S steps (further h w++r) (keys++[keyOf w])):=by
 obtain ⟨f,sl,seen,l',e,q,hf,hs,hk⟩:=M.ex
 have hne:l'≠[]:=fun z=>by rw [z] at q;exact absurd q.length_eq (by simp)
 obtain ⟨y,r',ey,hp,hy⟩:=pick_least l' hne
 have hwl:w∈l':=q.mem_iff.mpr List.mem_cons_self
 have hyl:y∈w::r:=q.mem_iff.mp (hp.mem_iff.mpr List.mem_cons_self)
 have hyw:y=w:=by
  rcases List.mem_cons.mp hyl with e | e
  ·exact e
  ·exact Det.one (M.det y hyl) (M.det w List.mem_cons_self) (sooner_same (hm y e) (hy w hwl))
 subst hyw
 have hr:r'.Perm r:=(List.perm_cons y).mp (hp.symm.trans q)
 cases f with
 | zero=>simp at hf
 | succ f =>
  have hl:(y::r).length=r.length + 1:=rfl
  rw [hl] at hf
  unfold search at e
  rw [ey] at e
  dsimp only at e
  have hc:seen.contains (y.going.done,y.going.beliefs)=keys.contains (keyOf y):=hk _
  rw [hc] at e
  refine ⟨fun c=>?_,fun c wh=>?_,fun c wh es=>?_,fun c wh es=>?_⟩
  ·rw [if_pos c] at e
   exact ⟨⟨f,sl,seen,r',e,hr,by omega,hs,hk⟩,fun x hx=>M.det x (List.mem_cons_of_mem _ hx)⟩
  ·rw [if_neg (by rw [c];simp),if_pos wh] at e
   exact e
  ·rw [if_neg (by rw [c];simp),if_neg (by rw [wh];simp),if_pos (by omega)] at e
   exact e
  ·rw [if_neg (by rw [c];simp),if_neg (by rw [wh];simp),if_neg (by omega)] at e
   have hfu:(further h y).length≤(items h).length:=List.length_filterMap_le _ _
   refine ⟨by omega,⟨⟨f,sl - 1,_,_,e,hr.append_left _,?_,by rw [List.length_append];simp;omega,fun k=>?_⟩,fun x hx=>?_⟩⟩
   ·rw [List.length_append]
    cases sl with
    | zero=>omega
    | succ n =>
     rw [Nat.succ_mul] at hf
     simp
     omega
   ·rw [List.contains_cons,hk k]
    show ((k == keyOf y) || keys.contains k)=_
    rw [Bool.eq_iff_iff]
    simp
    exact or_comm
   ·rcases List.mem_append.mp hx with hx | hx
    ·exact (M.det y List.mem_cons_self).further hx
    ·exact M.det x (List.mem_cons_of_mem _ hx)
theorem mem_from {bs:Bs} {x:Waiting}:∀ {n a:Nat},x∈from_ bs a n→∃ k,a≤k∧k < a + n∧x∈bs k
 | 0,a,h=>by cases h
 | n + 1,a,h=>by
  rw [from_succ] at h
  rcases List.mem_append.mp h with h | h
  ·exact ⟨a,Nat.le_refl _,by omega,h⟩
  ·obtain ⟨k,h1,h2,h3⟩:=mem_from h
   exact ⟨k,by omega,by omega,h3⟩
def Own (bs:Bs):Prop:=∀ k x,x∈bs k→x.going.minutes=k
theorem Own.push {bs:Bs} (o:Own bs) (w:Waiting):Own (push bs w):=fun k x hx=>by
 unfold CsM.push at hx
 split at hx
 ·rcases List.mem_append.mp hx with h | h
  ·exact o k x h
  ·have e:x=w:=by simpa using h
   subst e
   exact Eq.symm ‹_›
 ·exact o k x hx
theorem Own.pushAll:∀ {l:List Waiting} {bs:Bs},Own bs→Own (pushAll bs l)
 | [],_,o=>o
 | w::l,_,o=>Own.pushAll (l:=l) (o.push w)
structure AtM (h:House) (S:Found) (steps m:Nat) (bs:Bs) (keys:Keys):Prop where
 mid:Mid h S steps (from_ bs m (h.limit + 1 - m)) keys
 own:Own bs
structure InM (h:House) (S:Found) (steps m:Nat) (r:List Waiting) (bs:Bs) (keys:Keys):Prop where
 mid:Mid h S steps (r++from_ bs (m + 1) (h.limit - m)) keys
 own:Own bs
 srt:r.Pairwise fun a b=>lessPlan b.plan a.plan=false
 now:∀ x∈r,x.going.minutes=m
 le:m≤h.limit
def start0 (h:House):Bs:=fun k=>if k=0 then [⟨fresh h,[]⟩] else []
theorem from_none {bs:Bs}:∀ (n a:Nat),(∀ k,a≤k→bs k=[])→from_ bs a n=[]
 | 0,_,_=>rfl
 | n + 1,a,h=>by
  rw [from_succ,h a (Nat.le_refl _),from_none n (a + 1) fun k hk=>h k (by omega)]
  rfl
theorem AtM.start (h:House) (steps:Nat):AtM h (plan h steps) steps 0 (start0 h) []:=by
 refine ⟨?_,fun k x hx=>?_⟩
 ·rw [Nat.sub_zero,from_succ,from_none _ _ fun k hk=>by unfold start0;rw [if_neg (by omega)]]
  exact Mid.start h steps
 ·unfold start0 at hx
  split at hx
  ·have e:x=⟨fresh h,[]⟩:=by simpa using hx
   subst e
   exact Eq.symm ‹_›
  ·cases hx
theorem AtM.enter {h:House} {S:Found} {steps m:Nat} {bs:Bs} {keys:Keys} (M:AtM h S steps m bs keys) (hm:m≤h.limit) {r:List Waiting} (p:r.Perm (bs m)) (srt:r.Pairwise fun a b=>lessPlan b.plan a.plan=false):InM h S steps m r bs keys:=by
 refine ⟨?_,M.own,srt,fun x hx=>M.own m x (p.mem_iff.mp hx),hm⟩
 have e:h.limit + 1 - m=(h.limit - m) + 1:=by omega
 have q:=M.mid
 rw [e,from_succ] at q
 exact q.perm (p.symm.append_right _)
theorem InM.leave {h:House} {S:Found} {steps m:Nat} {bs:Bs} {keys:Keys} (M:InM h S steps m [] bs keys):AtM h S steps (m + 1) bs keys:=by
 refine ⟨?_,M.own⟩
 have e:h.limit + 1 - (m + 1)=h.limit - m:=by omega
 rw [e]
 exact M.mid
theorem AtM.over {h:House} {S:Found} {steps:Nat} {bs:Bs} {keys:Keys} (M:AtM h S steps (h.limit + 1) bs keys):S=.none:=by
 have q:=M.mid
 rw [Nat.sub_self] at q
 exact q.done
theorem InM.least {h:House} {S:Found} {steps m:Nat} {w:Waiting} {r:List Waiting} {bs:Bs} {keys:Keys} (M:InM h S steps m (w::r) bs keys):Least w (r++from_ bs (m + 1) (h.limit - m)):=fun x hx=>by
 have hw:=M.now w List.mem_cons_self
 rcases List.mem_append.mp hx with hx | hx
 ·have h1:=M.now x (List.mem_cons_of_mem _ hx)
  have h2:=(List.pairwise_cons.mp M.srt).1 x hx
  simp [sooner,h2]
  omega
 ·obtain ⟨k,hk,_,hb⟩:=mem_from hx
  have h1:=M.own k x hb
  simp [sooner]
  omega
theorem InM.seen {h:House} {S:Found} {steps m:Nat} {w:Waiting} {r:List Waiting} {bs:Bs} {keys:Keys} (M:InM h S steps m (w::r) bs keys) (c:keys.contains (keyOf w)=true):InM h S steps m r bs keys :=
 ⟨(Mid.take M.mid M.least).1 c,M.own,(List.pairwise_cons.mp M.srt).2,fun x hx=>M.now x (List.mem_cons_of_mem _ hx),M.le⟩
theorem InM.found {h:House} {S:Found} {steps m:Nat} {w:Waiting} {r:List Waiting} {bs:Bs} {keys:Keys} (M:InM h S steps m (w::r) bs keys) (c:keys.contains (keyOf w)=false) (wh:whole_ h w.going=true):S=.plan w :=
 (Mid.take M.mid M.least).2.1 c wh
theorem InM.spent {h:House} {S:Found} {steps m:Nat} {w:Waiting} {r:List Waiting} {bs:Bs} {keys:Keys} (M:InM h S steps m (w::r) bs keys) (c:keys.contains (keyOf w)=false) (wh:whole_ h w.going=false) (es:keys.length=steps):S=.spent :=
 (Mid.take M.mid M.least).2.2.1 c wh es
theorem InM.room {h:House} {S:Found} {steps m:Nat} {w:Waiting} {r:List Waiting} {bs:Bs} {keys:Keys} (M:InM h S steps m (w::r) bs keys) (c:keys.contains (keyOf w)=false) (wh:whole_ h w.going=false) (es:keys.length≠steps):keys.length < steps :=
 ((Mid.take M.mid M.least).2.2.2 c wh es).1
theorem further_minutes {h:House} (hl:Long h) {w x:Waiting} (hx:x∈further h w):w.going.minutes < x.going.minutes∧x.going.minutes≤h.limit:=by
 obtain ⟨i,_,hg,_⟩:=mem_further hx
 exact goOn_minutes hl hg
theorem InM.step {h:House} {S:Found} {steps m:Nat} {w:Waiting} {r:List Waiting} {bs:Bs} {keys:Keys} (hl:Long h) (M:InM h S steps m (w::r) bs keys) (c:keys.contains (keyOf w)=false) (wh:whole_ h w.going=false) (es:keys.length≠steps) :
  InM h S steps m r (pushAll bs (further h w)) (keys++[keyOf w]):=by
 have q:=((Mid.take M.mid M.least).2.2.2 c wh es).2
 have hw:=M.now w List.mem_cons_self
 refine ⟨q.perm ?_,Own.pushAll M.own,(List.pairwise_cons.mp M.srt).2,fun x hx=>M.now x (List.mem_cons_of_mem _ hx),M.le⟩
 have p:=pushAll_in (further h w) bs (h.limit - m) (m + 1) fun x hx=>by
  have:=further_minutes hl hx
  have:=M.le
  exact ⟨by omega,by omega⟩
 refine List.Perm.trans ?_ (p.symm.append_left r)
 show (further h w++(r++from_ bs (m + 1) (h.limit - m))).Perm _
 rw [← List.append_assoc,← List.append_assoc]
 exact List.Perm.append_right _ List.perm_append_comm
theorem AtM.det {h:House} {S:Found} {steps m:Nat} {bs:Bs} {keys:Keys} (M:AtM h S steps m bs keys) (hm:m≤h.limit) {x:Waiting} (hx:x∈bs m):Det h x:=by
 refine M.mid.det x ?_
 have e:h.limit + 1 - m=(h.limit - m) + 1:=by omega
 rw [e,from_succ]
 exact List.mem_append_left _ hx
theorem InM.det {h:House} {S:Found} {steps m:Nat} {r:List Waiting} {bs:Bs} {keys:Keys} (M:InM h S steps m r bs keys) {x:Waiting} (hx:x∈r):Det h x:=M.mid.det x (List.mem_append_left _ hx)
theorem goOn_none {h:House} {g:Going} {i:Nat} (e:itemAt h i=none):goOn h g i=.error 1:=by
 unfold goOn;rw [e]
theorem itemAt_trick {h:House} {i:Nat} (hi:i < 8):(itemAt h i).isSome=decide (i < h.tricks.length):=by
 unfold itemAt
 rw [if_pos hi]
 by_cases q:i < h.tricks.length
 ·rw [List.getElem?_eq_getElem q];simp [q]
 ·rw [List.getElem?_eq_none (by omega)];simp [q]
theorem itemAt_reset {h:House} {i:Nat} (hi:8≤i):(itemAt h i).isSome=decide (i - 8 < h.resets.length):=by
 unfold itemAt
 rw [if_neg (by omega)]
 by_cases q:i - 8 < h.resets.length
 ·rw [List.getElem?_eq_getElem q];simp [q]
 ·rw [List.getElem?_eq_none (by omega)];simp [q]
theorem filterMap_range {β:Type} (f:Nat→Option β):∀ (k n a:Nat),(∀ i,a + n≤i→i < a + n + k→f i=none)→(List.range' a (n + k)).filterMap f=(List.range' a n).filterMap f
 | 0,_,_,_=>rfl
 | k + 1,n,a,h=>by
  have e:List.range' a (n + (k + 1))=List.range' a (n + k)++[a + (n + k)]:=by
   rw [← Nat.add_assoc,List.range'_concat]
   simp
  rw [e,List.filterMap_append,filterMap_range f k n a fun i h1 h2=>h i h1 (by omega)]
  simp [h (a + (n + k)) (by omega) (by omega)]
def more1 (h:House) (w:Waiting) (i:Nat):Option Waiting:=match goOn h w.going i with
 | .ok g=>some ⟨g,w.plan++[i]⟩
 | .error _=>none
theorem more1_none {h:House} {w:Waiting} {i:Nat} (e:(itemAt h i).isSome=false):more1 h w i=none:=by
 unfold more1
 rw [goOn_none (by simpa using e)]
theorem further_all {h:House} (ht:h.tricks.length≤8) (hr:h.resets.length≤6) (w:Waiting):further h w=(List.range 14).filterMap (more1 h w):=by
 have e:List.range 14=List.range' 0 8++List.range' 8 6:=by decide
 have e1:(List.range' 0 8).filterMap (more1 h w)=(List.range h.tricks.length).filterMap (more1 h w):=by
  rw [List.range_eq_range']
  have q:=filterMap_range (more1 h w) (8 - h.tricks.length) h.tricks.length 0 fun i h1 h2=>more1_none (by rw [itemAt_trick (by omega)];simp;omega)
  rw [← q]
  congr 2
  omega
 have e2:(List.range' 8 6).filterMap (more1 h w)=((List.range h.resets.length).map fun r=>r + 8).filterMap (more1 h w):=by
  have q:=filterMap_range (more1 h w) (6 - h.resets.length) h.resets.length 8 fun i h1 h2=>more1_none (by rw [itemAt_reset (by omega)];simp;omega)
  have q1:(List.range h.resets.length).map (fun r=>r + 8)=List.range' 8 h.resets.length:=by
   rw [List.range_eq_range',show (fun r:Nat=>r + 8)=(fun r=>8 + r) from funext fun r=>Nat.add_comm r 8,List.map_add_range']
  rw [q1,← q]
  congr 2
  omega
 rw [e,List.filterMap_append,e1,e2,← List.filterMap_append]
 rfl
end CsM
namespace CsM
open Vbcjaj
theorem putNat_perm (n:Nat):∀ l:List Nat,(putNat n l).Perm (n::l)
 | []=>.refl _
 | m::l=>by
  unfold putNat
  split
  ·exact .refl _
  ·exact ((putNat_perm n l).cons m).trans (List.Perm.swap n m l)
theorem putNat_mem {n x:Nat} {l:List Nat}:x∈putNat n l↔x=n∨x∈l:=by
 rw [(putNat_perm n l).mem_iff,List.mem_cons]
theorem putNat_sorted {n:Nat}:∀ {l:List Nat},l.Pairwise (· < ·)→n∉l→(putNat n l).Pairwise (· < ·)
 | [],_,_=>List.pairwise_singleton _ _
 | m::l,h,hn=>by
  unfold putNat
  have h1:=List.pairwise_cons.mp h
  split
  ·rename_i hlt
   refine List.pairwise_cons.mpr ⟨fun x hx=>?_,h⟩
   rcases List.mem_cons.mp hx with rfl | hx
   ·exact hlt
   ·exact Nat.lt_trans hlt (h1.1 x hx)
  ·rename_i hge
   refine List.pairwise_cons.mpr ⟨fun x hx=>?_,putNat_sorted h1.2 fun z=>hn (List.mem_cons_of_mem _ z)⟩
   rcases putNat_mem.mp hx with rfl | hx
   ·have:x≠m:=fun z=>hn (by rw [z];exact List.mem_cons_self)
    omega
   ·exact h1.1 x hx
theorem sorted_one:∀ {l m:List Int},l.Perm m→l.Pairwise (·≤·)→m.Pairwise (·≤·)→l=m
 | [],m,p,_,_=>(List.perm_nil.mp p.symm).symm
 | a::l,[],p,_,_=>absurd p.length_eq (by simp)
 | a::l,b::m,p,h1,h2=>by
  have q1:=List.pairwise_cons.mp h1
  have q2:=List.pairwise_cons.mp h2
  have e:a=b:=by
   have ha:a∈b::m:=p.mem_iff.mp List.mem_cons_self
   have hb:b∈a::l:=p.mem_iff.mpr List.mem_cons_self
   rcases List.mem_cons.mp ha with e | ha
   ·exact e
   ·rcases List.mem_cons.mp hb with e | hb
    ·exact e.symm
    ·have:=q1.1 b hb
     have:=q2.1 a ha
     omega
  subst e
  rw [sorted_one ((List.perm_cons a).mp p) q1.2 q2.2]
theorem sorted_put {n:Nat} {l:List Nat} {ns:List Int} (h:l.Pairwise (· < ·)) (hn:n∉l) (p:ns.Perm ((l++[n]).map fun (x:Nat)=>(x:Int))) (hs:ns.Pairwise (·≤·)):ns=(putNat n l).map fun (x:Nat)=>(x:Int):=by
 refine sorted_one (p.trans ?_) hs ?_
 ·refine (List.Perm.map _ ?_)
  exact (List.perm_append_comm).trans (putNat_perm n l).symm
 ·rw [List.pairwise_map]
  exact (putNat_sorted h hn).imp fun hab=>by omega
theorem short_of {l:List Nat}:∀ {n:Nat},l.Pairwise (· < ·)→(∀ x∈l,x < n)→l.length≤n:=by
 intro n
 induction n generalizing l with
 | zero =>
  intro _ h
  cases l with
  | nil=>simp
  | cons a r=>exact absurd (h a List.mem_cons_self) (by omega)
 | succ n ih =>
  intro h hb
  cases hl:l.reverse with
  | nil =>
   have e:l=[]:=by simpa using hl
   rw [e]
   simp
  | cons a r =>
   have e:l=r.reverse++[a]:=by rw [← List.reverse_reverse l,hl,List.reverse_cons]
   subst e
   have h2:=List.pairwise_append.mp h
   have:=ih h2.1 fun x hx=>by
    have h3:=h2.2.2 x hx a (by simp)
    have h4:=hb a (by simp)
    omega
   rw [List.length_append]
   simp
   simpa using this
end CsM
namespace Cs
open PySem PySem.Spec PyProof.Rows L2
def top (i:Nat):Stmt:=PySem.Challenge.pw_cueshows_s01_answers.main.body.getD i (.Pass ⟨0,0,0,0⟩)
abbrev s_within:Stmt:=top 2
abbrev s_all_within:Stmt:=top 3
abbrev s_all_conditions:Stmt:=top 4
abbrev s_holds:Stmt:=top 5
abbrev s_are_sets:Stmt:=top 6
abbrev s_are_conditions:Stmt:=top 7
abbrev s_is_trick:Stmt:=top 15
abbrev s_item_at:Stmt:=top 16
abbrev s_refusal_unless_doing:Stmt:=top 37
abbrev s_wants_cue:Stmt:=top 39
abbrev s_is_rescued:Stmt:=top 40
abbrev s_waits_for_cue:Stmt:=top 41
abbrev s_way_taken:Stmt:=top 42
abbrev s_answer_send:Stmt:=top 47
abbrev s_refusal_of_place:Stmt:=top 48
abbrev s_answer_lose:Stmt:=top 49
abbrev s_answer_double:Stmt:=top 50
abbrev s_answer_deliver:Stmt:=top 51
abbrev s_answer_tick:Stmt:=top 52
abbrev s_answer_cue_call:Stmt:=top 53
abbrev s_answer_glance:Stmt:=top 56
abbrev s_answer_state:Stmt:=top 57
abbrev s_answer_log:Stmt:=top 58
abbrev s_answer_wire:Stmt:=top 59
abbrev s_answer_look_call:Stmt:=top 60
abbrev s_is_sure:Stmt:=top 62
abbrev s_left_by:Stmt:=top 63
abbrev s_believed_behind:Stmt:=top 64
abbrev s_empty_plan:Stmt:=top 75
abbrev s_is_whole:Stmt:=top 76
abbrev s_reason_against:Stmt:=top 77
abbrev s_longer_plan:Stmt:=top 78
abbrev s_longer_plans:Stmt:=top 79
abbrev s_order_of:Stmt:=top 80
abbrev s_find_plan:Stmt:=top 81
abbrev s_answer_runs:Stmt:=top 85
abbrev s_answer_plan:Stmt:=top 86
abbrev s_answer_plan_call:Stmt:=top 87
abbrev s_answer_props:Stmt:=top 96
abbrev s_answer_trick:Stmt:=top 97
abbrev s_answer_reset:Stmt:=top 98
abbrev s_answer_hall:Stmt:=top 99
abbrev s_answer_told:Stmt:=top 100
abbrev s_answer_setup_call:Stmt:=top 101
abbrev s_answer_start:Stmt:=top 103
abbrev s_was_done:Stmt:=top 104
abbrev s_refusal_of_begin:Stmt:=top 105
abbrev s_answer_begin:Stmt:=top 106
abbrev s_can_be_left:Stmt:=top 107
abbrev s_answer_finish:Stmt:=top 108
abbrev s_answer_close:Stmt:=top 109
abbrev s_answer_show_call:Stmt:=top 110
abbrev s_answer_call:Stmt:=top 118
abbrev s_answers:Stmt:=top 119
abbrev s_Item_init:Stmt:=inClass (top 13) 0
abbrev s_House_init:Stmt:=inClass (top 14) 0
abbrev s_Cue_init:Stmt:=inClass (top 33) 0
abbrev s_Done_init:Stmt:=inClass (top 34) 0
abbrev s_Show_init:Stmt:=inClass (top 35) 0
abbrev s_Show_turn_to:Stmt:=inClass (top 35) 1
abbrev s_Line_init:Stmt:=inClass (top 36) 0
abbrev s_Plan_init:Stmt:=inClass (top 74) 0
abbrev s_Reader_init:Stmt:=inClass (top 117) 0
abbrev s_Reader_at_end:Stmt:=inClass (top 117) 1
abbrev s_Reader_take:Stmt:=inClass (top 117) 2
abbrev s_Reader_take_row:Stmt:=inClass (top 117) 3
structure Fn (K:PySem.W.Frag) (mg:Str→Option Value) (x:Str) (st:Stmt) (ps:List Str) (f:Addr) (fd:FuncData):Prop where
 F:Fun K x x st f fd
 b:Binds K fd ps []
 m:mg x=some (.ref f)
def Cn (mg:Str→Option Value) (x:Str) (n:Int):Prop:=∃ u,mg x=some u∧RelV (.int n) u
def Tn (K:PySem.W.Frag) (mg:Str→Option Value) (x:Str) (ns:List Int):Prop:=∃ a,mg x=some (.ref a)∧∀ H,SqT K H a (ns.map V.int)
set_option genInjectivity false in
structure Ad where
 f_within:Addr
 d_within:FuncData
 f_all_within:Addr
 d_all_within:FuncData
 f_all_conditions:Addr
 d_all_conditions:FuncData
 f_holds:Addr
 d_holds:FuncData
 f_are_sets:Addr
 d_are_sets:FuncData
 f_are_conditions:Addr
 d_are_conditions:FuncData
 f_is_trick:Addr
 d_is_trick:FuncData
 f_item_at:Addr
 d_item_at:FuncData
 f_refusal_unless_doing:Addr
 d_refusal_unless_doing:FuncData
 f_wants_cue:Addr
 d_wants_cue:FuncData
 f_is_rescued:Addr
 d_is_rescued:FuncData
 f_waits_for_cue:Addr
 d_waits_for_cue:FuncData
 f_way_taken:Addr
 d_way_taken:FuncData
 f_answer_send:Addr
 d_answer_send:FuncData
 f_refusal_of_place:Addr
 d_refusal_of_place:FuncData
 f_answer_lose:Addr
 d_answer_lose:FuncData
 f_answer_double:Addr
 d_answer_double:FuncData
 f_answer_deliver:Addr
 d_answer_deliver:FuncData
 f_answer_tick:Addr
 d_answer_tick:FuncData
 f_answer_cue_call:Addr
 d_answer_cue_call:FuncData
 f_answer_glance:Addr
 d_answer_glance:FuncData
 f_answer_state:Addr
 d_answer_state:FuncData
 f_answer_log:Addr
 d_answer_log:FuncData
 f_answer_wire:Addr
 d_answer_wire:FuncData
 f_answer_look_call:Addr
 d_answer_look_call:FuncData
 f_is_sure:Addr
 d_is_sure:FuncData
 f_left_by:Addr
 d_left_by:FuncData
 f_believed_behind:Addr
 d_believed_behind:FuncData
 f_empty_plan:Addr
 d_empty_plan:FuncData
 f_is_whole:Addr
 d_is_whole:FuncData
 f_reason_against:Addr
 d_reason_against:FuncData
 f_longer_plan:Addr
 d_longer_plan:FuncData
 f_longer_plans:Addr
 d_longer_plans:FuncData
 f_order_of:Addr
 d_order_of:FuncData
 f_find_plan:Addr
 d_find_plan:FuncData
 f_answer_runs:Addr
 d_answer_runs:FuncData
 f_answer_plan:Addr
 d_answer_plan:FuncData
 f_answer_plan_call:Addr
 d_answer_plan_call:FuncData
 f_answer_props:Addr
 d_answer_props:FuncData
 f_answer_trick:Addr
 d_answer_trick:FuncData
 f_answer_reset:Addr
 d_answer_reset:FuncData
 f_answer_hall:Addr
 d_answer_hall:FuncData
 f_answer_told:Addr
 d_answer_told:FuncData
 f_answer_setup_call:Addr
 d_answer_setup_call:FuncData
 f_answer_start:Addr
 d_answer_start:FuncData
 f_was_done:Addr
 d_was_done:FuncData
 f_refusal_of_begin:Addr
 d_refusal_of_begin:FuncData
 f_answer_begin:Addr
 d_answer_begin:FuncData
 f_can_be_left:Addr
 d_can_be_left:FuncData
 f_answer_finish:Addr
 d_answer_finish:FuncData
 f_answer_close:Addr
 d_answer_close:FuncData
 f_answer_show_call:Addr
 d_answer_show_call:FuncData
 f_answer_call:Addr
 d_answer_call:FuncData
 f_answers:Addr
 d_answers:FuncData
 c_Item:Addr
 f_Item_init:Addr
 d_Item_init:FuncData
 c_House:Addr
 f_House_init:Addr
 d_House_init:FuncData
 c_Cue:Addr
 f_Cue_init:Addr
 d_Cue_init:FuncData
 c_Done:Addr
 f_Done_init:Addr
 d_Done_init:FuncData
 c_Show:Addr
 f_Show_init:Addr
 d_Show_init:FuncData
 f_Show_turn_to:Addr
 d_Show_turn_to:FuncData
 c_Line:Addr
 f_Line_init:Addr
 d_Line_init:FuncData
 c_Plan:Addr
 f_Plan_init:Addr
 d_Plan_init:FuncData
 c_Reader:Addr
 f_Reader_init:Addr
 d_Reader_init:FuncData
 f_Reader_at_end:Addr
 d_Reader_at_end:FuncData
 f_Reader_take:Addr
 d_Reader_take:FuncData
 f_Reader_take_row:Addr
 d_Reader_take_row:FuncData
structure Tx (K:PySem.W.Frag) (mg:Str→Option Value) (t:Ad):Prop where
 x_within:Fn K mg "within" s_within ["number","least","most"] t.f_within t.d_within
 x_all_within:Fn K mg "all_within" s_all_within ["row","least","most"] t.f_all_within t.d_all_within
 x_all_conditions:Fn K mg "all_conditions" s_all_conditions ["count"] t.f_all_conditions t.d_all_conditions
 x_holds:Fn K mg "holds" s_holds ["conditions","condition"] t.f_holds t.d_holds
 x_are_sets:Fn K mg "are_sets" s_are_sets ["row","props","least"] t.f_are_sets t.d_are_sets
 x_are_conditions:Fn K mg "are_conditions" s_are_conditions ["row","props"] t.f_are_conditions t.d_are_conditions
 x_is_trick:Fn K mg "is_trick" s_is_trick ["number"] t.f_is_trick t.d_is_trick
 x_item_at:Fn K mg "item_at" s_item_at ["house","number"] t.f_item_at t.d_item_at
 x_refusal_unless_doing:Fn K mg "refusal_unless_doing" s_refusal_unless_doing ["line"] t.f_refusal_unless_doing t.d_refusal_unless_doing
 x_wants_cue:Fn K mg "wants_cue" s_wants_cue ["house","show"] t.f_wants_cue t.d_wants_cue
 x_is_rescued:Fn K mg "is_rescued" s_is_rescued ["house","show"] t.f_is_rescued t.d_is_rescued
 x_waits_for_cue:Fn K mg "waits_for_cue" s_waits_for_cue ["house","show"] t.f_waits_for_cue t.d_waits_for_cue
 x_way_taken:Fn K mg "way_taken" s_way_taken ["house","show"] t.f_way_taken t.d_way_taken
 x_answer_send:Fn K mg "answer_send" s_answer_send ["line","value"] t.f_answer_send t.d_answer_send
 x_refusal_of_place:Fn K mg "refusal_of_place" s_refusal_of_place ["line","place"] t.f_refusal_of_place t.d_refusal_of_place
 x_answer_lose:Fn K mg "answer_lose" s_answer_lose ["line","place"] t.f_answer_lose t.d_answer_lose
 x_answer_double:Fn K mg "answer_double" s_answer_double ["line","place"] t.f_answer_double t.d_answer_double
 x_answer_deliver:Fn K mg "answer_deliver" s_answer_deliver ["line","place"] t.f_answer_deliver t.d_answer_deliver
 x_answer_tick:Fn K mg "answer_tick" s_answer_tick ["line","ticks"] t.f_answer_tick t.d_answer_tick
 x_answer_cue_call:Fn K mg "answer_cue_call" s_answer_cue_call ["line","call","numbers"] t.f_answer_cue_call t.d_answer_cue_call
 x_answer_glance:Fn K mg "answer_glance" s_answer_glance ["line","prop"] t.f_answer_glance t.d_answer_glance
 x_answer_state:Fn K mg "answer_state" s_answer_state ["line"] t.f_answer_state t.d_answer_state
 x_answer_log:Fn K mg "answer_log" s_answer_log ["line"] t.f_answer_log t.d_answer_log
 x_answer_wire:Fn K mg "answer_wire" s_answer_wire ["line"] t.f_answer_wire t.d_answer_wire
 x_answer_look_call:Fn K mg "answer_look_call" s_answer_look_call ["line","call","numbers"] t.f_answer_look_call t.d_answer_look_call
 x_is_sure:Fn K mg "is_sure" s_is_sure ["item","beliefs"] t.f_is_sure t.d_is_sure
 x_left_by:Fn K mg "left_by" s_left_by ["leave","beliefs"] t.f_left_by t.d_left_by
 x_believed_behind:Fn K mg "believed_behind" s_believed_behind ["item","beliefs"] t.f_believed_behind t.d_believed_behind
 x_empty_plan:Fn K mg "empty_plan" s_empty_plan ["house"] t.f_empty_plan t.d_empty_plan
 x_is_whole:Fn K mg "is_whole" s_is_whole ["house","plan"] t.f_is_whole t.d_is_whole
 x_reason_against:Fn K mg "reason_against" s_reason_against ["house","plan","number"] t.f_reason_against t.d_reason_against
 x_longer_plan:Fn K mg "longer_plan" s_longer_plan ["house","plan","number"] t.f_longer_plan t.d_longer_plan
 x_longer_plans:Fn K mg "longer_plans" s_longer_plans ["house","plan"] t.f_longer_plans t.d_longer_plans
 x_order_of:Fn K mg "order_of" s_order_of ["plan"] t.f_order_of t.d_order_of
 x_find_plan:Fn K mg "find_plan" s_find_plan ["house","steps"] t.f_find_plan t.d_find_plan
 x_answer_runs:Fn K mg "answer_runs" s_answer_runs ["line","order"] t.f_answer_runs t.d_answer_runs
 x_answer_plan:Fn K mg "answer_plan" s_answer_plan ["line","steps"] t.f_answer_plan t.d_answer_plan
 x_answer_plan_call:Fn K mg "answer_plan_call" s_answer_plan_call ["line","call","numbers","rows"] t.f_answer_plan_call t.d_answer_plan_call
 x_answer_props:Fn K mg "answer_props" s_answer_props ["line","props"] t.f_answer_props t.d_answer_props
 x_answer_trick:Fn K mg "answer_trick" s_answer_trick ["line","minutes","wait","need","leave","rescue"] t.f_answer_trick t.d_answer_trick
 x_answer_reset:Fn K mg "answer_reset" s_answer_reset ["line","minutes","need","leave"] t.f_answer_reset t.d_answer_reset
 x_answer_hall:Fn K mg "answer_hall" s_answer_hall ["line","limit","delay","beliefs"] t.f_answer_hall t.d_answer_hall
 x_answer_told:Fn K mg "answer_told" s_answer_told ["line"] t.f_answer_told t.d_answer_told
 x_answer_setup_call:Fn K mg "answer_setup_call" s_answer_setup_call ["line","call","numbers","rows"] t.f_answer_setup_call t.d_answer_setup_call
 x_answer_start:Fn K mg "answer_start" s_answer_start ["line","actual"] t.f_answer_start t.d_answer_start
 x_was_done:Fn K mg "was_done" s_was_done ["show","number"] t.f_was_done t.d_was_done
 x_refusal_of_begin:Fn K mg "refusal_of_begin" s_refusal_of_begin ["house","show","number"] t.f_refusal_of_begin t.d_refusal_of_begin
 x_answer_begin:Fn K mg "answer_begin" s_answer_begin ["line","number"] t.f_answer_begin t.d_answer_begin
 x_can_be_left:Fn K mg "can_be_left" s_can_be_left ["leave","before","actual"] t.f_can_be_left t.d_can_be_left
 x_answer_finish:Fn K mg "answer_finish" s_answer_finish ["line","actual"] t.f_answer_finish t.d_answer_finish
 x_answer_close:Fn K mg "answer_close" s_answer_close ["line"] t.f_answer_close t.d_answer_close
 x_answer_show_call:Fn K mg "answer_show_call" s_answer_show_call ["line","call","numbers","rows"] t.f_answer_show_call t.d_answer_show_call
 x_answer_call:Fn K mg "answer_call" s_answer_call ["line","call","numbers","rows"] t.f_answer_call t.d_answer_call
 x_answers:Fn K mg "answers" s_answers ["calls"] t.f_answers t.d_answers
 cl_Item:Cls K t.c_Item
 mk_Item:Mk K t.c_Item t.f_Item_init
 mg_Item:mg "Item"=some (.ref t.c_Item)
 x_Item_init:Fun K "__init__" "Item.__init__" s_Item_init t.f_Item_init t.d_Item_init
 b_Item_init:Binds K t.d_Item_init ["self","minutes","wait","need","leave","rescue"] []
 no_Item_minutes:NoAttr K t.c_Item "minutes"
 no_Item_wait:NoAttr K t.c_Item "wait"
 no_Item_need:NoAttr K t.c_Item "need"
 no_Item_leave:NoAttr K t.c_Item "leave"
 no_Item_rescue:NoAttr K t.c_Item "rescue"
 cl_House:Cls K t.c_House
 mk_House:Mk K t.c_House t.f_House_init
 mg_House:mg "House"=some (.ref t.c_House)
 x_House_init:Fun K "__init__" "House.__init__" s_House_init t.f_House_init t.d_House_init
 b_House_init:Binds K t.d_House_init ["self","props"] []
 no_House_props:NoAttr K t.c_House "props"
 no_House_tricks:NoAttr K t.c_House "tricks"
 no_House_resets:NoAttr K t.c_House "resets"
 no_House_limit:NoAttr K t.c_House "limit"
 no_House_delay:NoAttr K t.c_House "delay"
 no_House_beliefs:NoAttr K t.c_House "beliefs"
 cl_Cue:Cls K t.c_Cue
 mk_Cue:Mk K t.c_Cue t.f_Cue_init
 mg_Cue:mg "Cue"=some (.ref t.c_Cue)
 x_Cue_init:Fun K "__init__" "Cue.__init__" s_Cue_init t.f_Cue_init t.d_Cue_init
 b_Cue_init:Binds K t.d_Cue_init ["self","serial","number","value","age"] []
 no_Cue_serial:NoAttr K t.c_Cue "serial"
 no_Cue_number:NoAttr K t.c_Cue "number"
 no_Cue_value:NoAttr K t.c_Cue "value"
 no_Cue_age:NoAttr K t.c_Cue "age"
 cl_Done:Cls K t.c_Done
 mk_Done:Mk K t.c_Done t.f_Done_init
 mg_Done:mg "Done"=some (.ref t.c_Done)
 x_Done_init:Fun K "__init__" "Done.__init__" s_Done_init t.f_Done_init t.d_Done_init
 b_Done_init:Binds K t.d_Done_init ["self","number","taken","rescued"] []
 no_Done_number:NoAttr K t.c_Done "number"
 no_Done_taken:NoAttr K t.c_Done "taken"
 no_Done_rescued:NoAttr K t.c_Done "rescued"
 cl_Show:Cls K t.c_Show
 mk_Show:Mk K t.c_Show t.f_Show_init
 mg_Show:mg "Show"=some (.ref t.c_Show)
 x_Show_init:Fun K "__init__" "Show.__init__" s_Show_init t.f_Show_init t.d_Show_init
 b_Show_init:Binds K t.d_Show_init ["self","beliefs","actual"] []
 x_Show_turn_to:Fun K "turn_to" "Show.turn_to" s_Show_turn_to t.f_Show_turn_to t.d_Show_turn_to
 b_Show_turn_to:Binds K t.d_Show_turn_to ["self","number"] []
 m_Show_turn_to:Meth K t.c_Show "turn_to" t.f_Show_turn_to
 no_Show_beliefs:NoAttr K t.c_Show "beliefs"
 no_Show_actual:NoAttr K t.c_Show "actual"
 no_Show_serial:NoAttr K t.c_Show "serial"
 no_Show_done:NoAttr K t.c_Show "done"
 no_Show_minutes:NoAttr K t.c_Show "minutes"
 no_Show_wire:NoAttr K t.c_Show "wire"
 no_Show_doing:NoAttr K t.c_Show "doing"
 no_Show_sent:NoAttr K t.c_Show "sent"
 no_Show_ticks:NoAttr K t.c_Show "ticks"
 no_Show_taken:NoAttr K t.c_Show "taken"
 cl_Line:Cls K t.c_Line
 mk_Line:Mk K t.c_Line t.f_Line_init
 mg_Line:mg "Line"=some (.ref t.c_Line)
 x_Line_init:Fun K "__init__" "Line.__init__" s_Line_init t.f_Line_init t.d_Line_init
 b_Line_init:Binds K t.d_Line_init ["self"] []
 no_Line_house:NoAttr K t.c_Line "house"
 no_Line_show:NoAttr K t.c_Line "show"
 cl_Plan:Cls K t.c_Plan
 mk_Plan:Mk K t.c_Plan t.f_Plan_init
 mg_Plan:mg "Plan"=some (.ref t.c_Plan)
 x_Plan_init:Fun K "__init__" "Plan.__init__" s_Plan_init t.f_Plan_init t.d_Plan_init
 b_Plan_init:Binds K t.d_Plan_init ["self","order","minutes","done","beliefs"] []
 no_Plan_order:NoAttr K t.c_Plan "order"
 no_Plan_minutes:NoAttr K t.c_Plan "minutes"
 no_Plan_done:NoAttr K t.c_Plan "done"
 no_Plan_beliefs:NoAttr K t.c_Plan "beliefs"
 cl_Reader:Cls K t.c_Reader
 mk_Reader:Mk K t.c_Reader t.f_Reader_init
 mg_Reader:mg "Reader"=some (.ref t.c_Reader)
 x_Reader_init:Fun K "__init__" "Reader.__init__" s_Reader_init t.f_Reader_init t.d_Reader_init
 b_Reader_init:Binds K t.d_Reader_init ["self","calls"] []
 x_Reader_at_end:Fun K "at_end" "Reader.at_end" s_Reader_at_end t.f_Reader_at_end t.d_Reader_at_end
 b_Reader_at_end:Binds K t.d_Reader_at_end ["self"] []
 m_Reader_at_end:Meth K t.c_Reader "at_end" t.f_Reader_at_end
 x_Reader_take:Fun K "take" "Reader.take" s_Reader_take t.f_Reader_take t.d_Reader_take
 b_Reader_take:Binds K t.d_Reader_take ["self"] []
 m_Reader_take:Meth K t.c_Reader "take" t.f_Reader_take
 x_Reader_take_row:Fun K "take_row" "Reader.take_row" s_Reader_take_row t.f_Reader_take_row t.d_Reader_take_row
 b_Reader_take_row:Binds K t.d_Reader_take_row ["self"] []
 m_Reader_take_row:Meth K t.c_Reader "take_row" t.f_Reader_take_row
 no_Reader_calls:NoAttr K t.c_Reader "calls"
 no_Reader_place:NoAttr K t.c_Reader "place"
 k_FIRST_RESET:Cn mg "FIRST_RESET" (8)
 k_MOST_TRICKS:Cn mg "MOST_TRICKS" (8)
 k_MOST_RESETS:Cn mg "MOST_RESETS" (6)
 k_LAST_ITEM:Cn mg "LAST_ITEM" (13)
 k_OUT_OF_RANGE:Cn mg "OUT_OF_RANGE" (-1)
 k_WRONG_LIST:Cn mg "WRONG_LIST" (-2)
 k_SHOW_ON_OR_OFF:Cn mg "SHOW_ON_OR_OFF" (-3)
 k_NO_SUCH:Cn mg "NO_SUCH" (-4)
 k_BUSY_OR_IDLE:Cn mg "BUSY_OR_IDLE" (-5)
 k_OVER_LIMIT:Cn mg "OVER_LIMIT" (-6)
 k_FULL:Cn mg "FULL" (-7)
 k_CANNOT_BE:Cn mg "CANNOT_BE" (-8)
 k_TRICK_WAS_DONE:Cn mg "TRICK_WAS_DONE" (-9)
 k_NOT_SURE:Cn mg "NOT_SURE" (-10)
 k_NO_CUE_WANTED:Cn mg "NO_CUE_WANTED" (-11)
 k_NO_CUE_AT_PLACE:Cn mg "NO_CUE_AT_PLACE" (-12)
 k_NOT_AT_ITS_END:Cn mg "NOT_AT_ITS_END" (-13)
 k_NO_ITEM:Cn mg "NO_ITEM" (-1)
 k_NO_VALUE:Cn mg "NO_VALUE" (-1)
 k_MOST_VALUE:Cn mg "MOST_VALUE" (99)
 k_MOST_CUES:Cn mg "MOST_CUES" (20)
 k_MOST_TICKS:Cn mg "MOST_TICKS" (30)
 k_LAST_PROP:Cn mg "LAST_PROP" (3)
 k_RUNS:Cn mg "RUNS" (0)
 k_NO_SUCH_ITEM:Cn mg "NO_SUCH_ITEM" (1)
 k_TRICK_WAS_THERE:Cn mg "TRICK_WAS_THERE" (2)
 k_ITEM_NOT_SURE:Cn mg "ITEM_NOT_SURE" (3)
 k_LIMIT_PASSED:Cn mg "LIMIT_PASSED" (4)
 k_NONE_FOUND:Cn mg "NONE_FOUND" (0)
 k_FOUND:Cn mg "FOUND" (1)
 k_STEPS_USED_UP:Cn mg "STEPS_USED_UP" (2)
 k_MOST_IN_LIST:Cn mg "MOST_IN_LIST" (30)
 k_MOST_STEPS:Cn mg "MOST_STEPS" (200)
 k_MOST_PROPS:Cn mg "MOST_PROPS" (4)
 k_LEAST_CONDITIONS:Cn mg "LEAST_CONDITIONS" (2)
 k_MOST_CONDITIONS:Cn mg "MOST_CONDITIONS" (6)
 k_MOST_MINUTES:Cn mg "MOST_MINUTES" (60)
 k_MOST_WAIT:Cn mg "MOST_WAIT" (20)
 k_MOST_LIMIT:Cn mg "MOST_LIMIT" (480)
 k_MOST_DELAY:Cn mg "MOST_DELAY" (20)
 k_LAST_SETUP_CALL:Cn mg "LAST_SETUP_CALL" (4)
 k_LAST_PLAN_CALL:Cn mg "LAST_PLAN_CALL" (6)
 k_POWERS:Tn K mg "POWERS" [1,2,4,8,16,32,64]
 k_CUE_CALLS:Tn K mg "CUE_CALLS" [9,10,11,12,13]
 k_LOOK_CALLS:Tn K mg "LOOK_CALLS" [15,16,17,18]
 n_all:mg "all"=none
 n_zip:mg "zip"=none
 n_range:mg "range"=none
 n_enumerate:mg "enumerate"=none
 n_sorted:mg "sorted"=none
 n_tuple:mg "tuple"=none
 n_list:mg "list"=none
 n_len:mg "len"=none
 n_any:mg "any"=none
section
variable {P:Program} {w:World} {K:PySem.W.Frag} {mg:Str→Option Value} {base:Heap} {t:Ad}
theorem get_map {α β:Type} {f:α→β} {l:List α} {i:Nat} {y:β} (h:(l.map f)[i]?=some y):∃ x,l[i]?=some x∧y=f x:=by
 rw [List.getElem?_map] at h
 cases e:l[i]? with
 | none=>rw [e] at h;cases h
 | some x=>rw [e] at h;cases h;exact ⟨x,rfl,rfl⟩
theorem range_map {α β:Type} (l:List α) (f:Nat→β) (g:α→β) (h:∀ i x,l[i]?=some x→f i=g x):(List.range l.length).map f=l.map g:=by
 apply List.ext_getElem?
 intro i
 rw [List.getElem?_map,List.getElem?_map]
 by_cases hi:i < l.length
 ·rw [List.getElem?_range hi,List.getElem?_eq_getElem hi]
  exact congrArg some (h i _ (List.getElem?_eq_getElem hi))
 ·rw [List.getElem?_eq_none (by simpa using hi),List.getElem?_eq_none (by simpa using hi)]
  rfl
def inR (n a b:Int):Bool:=decide (a≤n) && decide (n≤b)
def spWithin:Sp:=fun vs H Q _=>∃ n a b:Int,vs=[.int n,.int a,.int b]∧Q (.bl (inR n a b)) H
theorem scWithin:FnScope ["number","least","most"] ["number","least","most"] (defScope s_within):=⟨rfl,rfl,rfl,by decide +kernel,rfl,by decide +kernel,by decide +kernel⟩
theorem ok_within (T:Tx K mg t):FnOk P w K mg base CX0 1 t.f_within t.d_within ["number","least","most"] spWithin:=by
 refine T.x_within.F.ok scWithin (fun vs H Q E h=>?_) (fun cdv A outer s H vs Q E hr h=>?_)
 ·obtain ⟨n,a,b,rfl,_⟩:=h
  rfl
 ·obtain ⟨n,a,b,rfl,k⟩:=h
  refine ⟨_,pss_one (ps_ret (pe_chain op_le op_le (pv 1) (pv 0) (pv 2))),?_⟩
  refine ⟨_,rfl,_,rfl,_,_,rfl,rfl,_,rfl,?_⟩
  by_cases h1:a≤n
  ·rw [if_pos (decide_eq_true h1)]
   refine ⟨_,rfl,_,_,rfl,rfl,?_⟩
   have e:inR n a b=decide (n≤b):=by unfold inR;rw [decide_eq_true h1,Bool.true_and]
   rw [e] at k
   exact k
  ·rw [if_neg (by rw [decide_eq_false h1];simp)]
   have e:inR n a b=false:=by unfold inR;rw [decide_eq_false h1,Bool.false_and]
   rw [e] at k
   exact k
def spAllWithin (K:PySem.W.Frag):Sp:=fun vs H Q _=>∃ (a:Addr) (ns:List Int) (lo hi:Int),vs=[.ref a,.int lo,.int hi]∧SqL K H a (ns.map V.int)∧ns.length≤sizeLine∧∀ H',Same H H'→Q (.bl (ns.all fun n=>inR n lo hi)) H'
theorem scAllWithin:FnScope ["row","least","most","number"] ["row","least","most"] (defScope s_all_within):=⟨rfl,rfl,rfl,by decide +kernel,rfl,by decide +kernel,by decide +kernel⟩
theorem ok_allWithin (T:Tx K mg t):FnOk P w K mg base CX0 2 t.f_all_within t.d_all_within ["row","least","most"] (spAllWithin K):=by
 refine T.x_all_within.F.ok scAllWithin (fun vs H Q E h=>?_) (fun cdv A outer s H vs Q E hr h=>?_)
 ·obtain ⟨a,ns,lo,hi,rfl,_⟩:=h
  rfl
 ·obtain ⟨a,ns,lo,hi,rfl,hS,hz,k⟩:=h
  refine ⟨_,pss_one (ps_ret (pe_callB (cr_all rfl) rfl T.n_all boot_all (pa_cons (pe_lc (own:=[("number",3)]) rfl scAllWithin.nd (pi_list (pv 0)) (blkOk_by (show blkC ["row","least","most","number"] (defScope s_all_within) _ _=true by decide +kernel)) (fun _ _ _ _ _=>pg_name (i:=3) scAllWithin.nd rfl (Or.inl rfl)) (fun _ _ _ _ _=>pts_nil)
   (fun _ _ _ _ _=>pe_call (ok_within T) hr rfl T.x_within.m T.x_within.F.kp T.x_within.b .nil pass0 (pa_cons (pv 3) (pa_cons (pv 1) (pa_cons (pv 2) pa_nil))))) pa_nil))),?_⟩
  refine ⟨_,rfl,a,rfl,⟨_,hS⟩,fun D hD=>?_⟩
  refine lcl_map (xs:=ns.map V.int) (fun i=>.bl (inR (ns.getD i 0) lo hi)) (by rw [List.length_map];exact hz) hD hS (fun i x H' hx sm R hR=>?_) (fun H' sm e=>?_)
  ·obtain ⟨n,hn,rfl⟩:=get_map hx
   have en:ns.getD i 0=n:=by rw [List.getD_eq_getElem?_getD,hn];rfl
   rw [en] at hR
   exact ⟨rfl,_,rfl,_,rfl,_,rfl,n,lo,hi,rfl,hR _ (Same.refl _)⟩
  ·rw [List.length_map,range_map ns _ (fun n=>.bl (inR n lo hi)) (fun i x hx=>by rw [List.getD_eq_getElem?_getD,hx];rfl)] at e
   refine ⟨D,ns.map fun n=>inR n lo hi,rfl,SqL.of (by rw [e,List.map_map];rfl),?_⟩
   rw [List.all_map]
   exact k _ sm
theorem pow_at {c:Nat} (h:c < 7):atI ([1,2,4,8,16,32,64].map V.int) ((c:Nat):Int)=some (.int ((2 ^ c:Nat):Int)):=by
 match c,h with
 | 0,_=>rfl
 | 1,_=>rfl
 | 2,_=>rfl
 | 3,_=>rfl
 | 4,_=>rfl
 | 5,_=>rfl
 | 6,_=>rfl
def spAllConditions:Sp:=fun vs H Q _=>∃ c:Nat,vs=[.int c]∧c < 7∧Q (.int ((2 ^ c:Nat) - 1:Int)) H
theorem scAllConditions:FnScope ["count"] ["count"] (defScope s_all_conditions):=⟨rfl,rfl,rfl,by decide +kernel,rfl,by decide +kernel,by decide +kernel⟩
theorem ok_allConditions (T:Tx K mg t):FnOk P w K mg base CX0 1 t.f_all_conditions t.d_all_conditions ["count"] spAllConditions:=by
 refine T.x_all_conditions.F.ok scAllConditions (fun vs H Q E h=>?_) (fun cdv A outer s H vs Q E hr h=>?_)
 ·obtain ⟨c,rfl,_⟩:=h
  rfl
 ·obtain ⟨c,rfl,hc,k⟩:=h
  obtain ⟨p,mp,sp⟩:=T.k_POWERS
  refine ⟨_,pss_one (ps_ret (pe_op op_sub (pe_ix ix_tup (pe_glob rfl mp (show RelV (.ref p) _ from rfl)) (pv 0) (fun _ _=>rfl)) pe_int)),?_⟩
  exact ⟨_,rfl,p,_,_,_,rfl,rfl,sp H,pow_at hc,_,_,rfl,rfl,k⟩
def spHolds:Sp:=fun vs H Q _=>∃ b c:Nat,vs=[.int b,.int c]∧b < 64∧c < 7∧Q (.bl (Vbcjaj.bitOf b c)) H
theorem scHolds:FnScope ["conditions","condition"] ["conditions","condition"] (defScope s_holds):=⟨rfl,rfl,rfl,by decide +kernel,rfl,by decide +kernel,by decide +kernel⟩
theorem ok_holds (T:Tx K mg t):FnOk P w K mg base CX0 1 t.f_holds t.d_holds ["conditions","condition"] spHolds:=by
 refine T.x_holds.F.ok scHolds (fun vs H Q E h=>?_) (fun cdv A outer s H vs Q E hr h=>?_)
 ·obtain ⟨b,c,rfl,_⟩:=h
  rfl
 ·obtain ⟨b,c,rfl,hb,hc,k⟩:=h
  obtain ⟨p,mp,sp⟩:=T.k_POWERS
  refine ⟨_,pss_one (ps_ret (pe_cmpR op_ne (pe_op op_and (pv 0) (pe_ix ix_tup (pe_glob rfl mp (show RelV (.ref p) _ from rfl)) (pv 1) (fun _ _=>rfl))) pe_int (nomark _))),?_⟩
  refine ⟨_,rfl,_,rfl,p,_,_,_,rfl,rfl,sp H,pow_at hc,_,_,rfl,rfl,rfl,?_⟩
  have e:=CsM.and_pow ⟨b,hb⟩ ⟨c,hc⟩
  dsimp only at e
  rw [← e] at k
  have e2:(!decide (V.int (Builtin.bitAnd (b:Int) ((2 ^ c:Nat):Int))=V.int 0))=decide (Builtin.bitAnd (b:Int) ((2 ^ c:Nat):Int)≠0):=by
   by_cases z:Builtin.bitAnd (b:Int) ((2 ^ c:Nat):Int)=0
   ·rw [z];simp
   ·rw [decide_eq_true z,decide_eq_false (fun q=>z (by injection q))];rfl
  rw [e2]
  exact k
end
section
variable {P:Program} {w:World} {K:PySem.W.Frag} {mg:Str→Option Value} {base:Heap} {t:Ad}
abbrev nv (l:List Nat):List V:=l.map fun (n:Nat)=>V.int (n:Int)
theorem range_zip {α β γ:Type} (l:List α) (m:List β) (f:Nat→γ) (g:α→β→γ) (hl:m.length=l.length) (h:∀ i x y,l[i]?=some x→m[i]?=some y→f i=g x y):(List.range l.length).map f=(l.zip m).map fun x=>g x.1 x.2:=by
 apply List.ext_getElem?
 intro i
 rw [List.getElem?_map,List.getElem?_map]
 by_cases hi:i < l.length
 ·have hj:i < m.length:=by omega
  rw [List.getElem?_range hi,List.getElem?_eq_getElem (by rw [List.length_zip];omega),List.getElem_zip]
  exact congrArg some (h i _ _ (List.getElem?_eq_getElem hi) (List.getElem?_eq_getElem hj))
 ·rw [List.getElem?_eq_none (by simpa using hi),List.getElem?_eq_none (by rw [List.length_zip];omega)]
  rfl
def setsB (ps:List Nat) (lo:Int) (ns:List Int):Bool:=ns.length == ps.length && (ns.zip ps).all fun x=>Vbcjaj.inside x.1 lo (Vbcjaj.whole (Vbcjaj.full x.2))
theorem inside_eq (n a b:Int):Vbcjaj.inside n a b=inR n a b:=rfl
theorem full_eq (c:Nat):((2 ^ c:Nat) - 1:Int)=Vbcjaj.whole (Vbcjaj.full c):=by
 unfold Vbcjaj.whole Vbcjaj.full
 have:1≤2 ^ c:=Nat.one_le_two_pow
 omega
def spAreSets (K:PySem.W.Frag):Sp:=fun vs H Q _=>∃ (a b:Addr) (ns:List Int) (ps:List Nat) (lo:Int),vs=[.ref a,.ref b,.int lo]∧SqL K H a (ns.map V.int)∧SqL K H b (nv ps)∧ns.length≤sizeLine∧(∀ p∈ps,p < 7)∧∀ H',Same H H'→Q (.bl (setsB ps lo ns)) H'
theorem scAreSets:FnScope ["row","props","least","number","count"] ["row","props","least"] (defScope s_are_sets):=⟨rfl,rfl,rfl,by decide +kernel,rfl,by decide +kernel,by decide +kernel⟩
theorem ok_areSets (T:Tx K mg t):FnOk P w K mg base CX0 2 t.f_are_sets t.d_are_sets ["row","props","least"] (spAreSets K):=by
 refine T.x_are_sets.F.ok scAreSets (fun vs H Q E h=>?_) (fun cdv A outer s H vs Q E hr h=>?_)
 ·obtain ⟨a,b,ns,ps,lo,rfl,_⟩:=h
  rfl
 ·obtain ⟨a,b,ns,ps,lo,rfl,hA,hB,hz,hp,k⟩:=h
  refine ⟨_,pss_cons (ps_if (pt_cmpR op_ne (pe_callB call_len_seq rfl T.n_len PySem.boot_len (pa_cons (pv 0) pa_nil)) (pe_callB call_len_seq rfl T.n_len PySem.boot_len (pa_cons (pv 1) pa_nil)) (nomark _)) (pss_one (ps_ret pe_bl)) pss_nil)
   (pss_one (ps_ret (pe_callB (cr_all rfl) rfl T.n_all boot_all (pa_cons (pe_lc (own:=[("number",3),("count",4)]) (g:=gTup K 2 (gCons (gName 3) (gCons (gName 4) gNil))) rfl scAreSets.nd (pi_zip rfl T.n_zip (pa_cons (pv 0) (pa_cons (pv 1) pa_nil))) (blkOk_by (show blkC ["row","props","least","number","count"] (defScope s_are_sets) _ _=true by decide +kernel))
    (fun _ _ _ _ _=>pg_pair (i:=3) (j:=4) rfl scAreSets.nd rfl (Or.inl rfl) rfl (Or.inl rfl) (Or.inr rfl) (Or.inr rfl)) (fun _ _ _ _ _=>pts_nil)
    (fun _ _ _ _ _=>pe_call (ok_within T) hr rfl T.x_within.m T.x_within.F.kp T.x_within.b .nil pass0 (pa_cons (pv 3) (pa_cons (pv 2) (pa_cons (pe_call (ok_allConditions T) hr rfl T.x_all_conditions.m T.x_all_conditions.F.kp T.x_all_conditions.b .nil pass0 (pa_cons (pv 4) pa_nil)) pa_nil))))) pa_nil)))),?_⟩
  refine ⟨_,rfl,a,_,rfl,.inl hA,_,rfl,b,_,rfl,.inl hB,rfl,_,rfl,?_⟩
  rw [List.length_map,List.length_map]
  by_cases hl:ns.length=ps.length
  ·have e0:(!decide (V.int (ns.length:Int)=V.int (ps.length:Int)))=false:=by rw [hl];simp
   rw [e0]
   refine iteF ?_
   refine ⟨_,rfl,_,rfl,a,b,_,_,rfl,hA,hB,fun D hD=>?_⟩
   refine lcz_map (xs:=ns.map V.int) (ys:=nv ps) (fun i=>.bl (Vbcjaj.inside (ns.getD i 0) lo (Vbcjaj.whole (Vbcjaj.full (ps.getD i 0))))) (by rw [List.length_map];exact hz) (by rw [List.length_map,List.length_map,hl]) hD hA hB (fun i x y U H' hx hy sm hU R hR=>?_) (fun H' sm e=>?_)
   ·obtain ⟨n,hn,rfl⟩:=get_map hx
    obtain ⟨c,hc,rfl⟩:=get_map hy
    have en:ns.getD i 0=n:=by rw [List.getD_eq_getElem?_getD,hn];rfl
    have ec:ps.getD i 0=c:=by rw [List.getD_eq_getElem?_getD,hc];rfl
    rw [en,ec] at hR
    refine ⟨U,_,rfl,SqT.of hU,rfl,_,_,rfl,_,_,rfl,rfl,rfl,?_⟩
    refine ⟨_,rfl,_,rfl,_,rfl,c,rfl,hp c (List.mem_of_getElem? hc),n,lo,_,rfl,?_⟩
    rw [full_eq]
    exact hR _ (Same.refl _)
   ·rw [List.length_map,range_zip ns ps _ (fun n c=>V.bl (Vbcjaj.inside n lo (Vbcjaj.whole (Vbcjaj.full c)))) hl.symm (fun i x y hx hy=>by rw [List.getD_eq_getElem?_getD,hx,List.getD_eq_getElem?_getD,hy];rfl)] at e
    refine ⟨D,(ns.zip ps).map fun x=>Vbcjaj.inside x.1 lo (Vbcjaj.whole (Vbcjaj.full x.2)),rfl,SqL.of (by rw [e,List.map_map];rfl),?_⟩
    have q:=k _ sm
    unfold setsB at q
    rw [hl,beq_self_eq_true,Bool.true_and] at q
    rw [List.all_map]
    exact q
  ·have e0:(!decide (V.int (ns.length:Int)=V.int (ps.length:Int)))=true:=by
    rw [decide_eq_false (fun z=>hl (by injection z with z;omega))]
    rfl
   rw [e0]
   refine iteT ?_
   have q:=k _ (Same.refl _)
   unfold setsB at q
   rw [show (ns.length == ps.length)=false by simpa using hl,Bool.false_and] at q
   exact q
end
section
variable {P:Program} {w:World} {K:PySem.W.Frag} {mg:Str→Option Value} {base:Heap} {t:Ad}
def condsB (ps:List Nat) (ns:List Int):Bool:=ns.length == ps.length && (ns.zip ps).all fun x=>Vbcjaj.inside x.1 0 (Vbcjaj.whole x.2 - 1)
def spAreConditions (K:PySem.W.Frag):Sp:=fun vs H Q _=>∃ (a b:Addr) (ns:List Int) (ps:List Nat),vs=[.ref a,.ref b]∧SqL K H a (ns.map V.int)∧SqL K H b (nv ps)∧ns.length≤sizeLine∧∀ H',Same H H'→Q (.bl (condsB ps ns)) H'
theorem scAreConditions:FnScope ["row","props","number","count"] ["row","props"] (defScope s_are_conditions):=⟨rfl,rfl,rfl,by decide +kernel,rfl,by decide +kernel,by decide +kernel⟩
theorem ok_areConditions (T:Tx K mg t):FnOk P w K mg base CX0 2 t.f_are_conditions t.d_are_conditions ["row","props"] (spAreConditions K):=by
 refine T.x_are_conditions.F.ok scAreConditions (fun vs H Q E h=>?_) (fun cdv A outer s H vs Q E hr h=>?_)
 ·obtain ⟨a,b,ns,ps,rfl,_⟩:=h
  rfl
 ·obtain ⟨a,b,ns,ps,rfl,hA,hB,hz,k⟩:=h
  refine ⟨_,pss_cons (ps_if (pt_cmpR op_ne (pe_callB call_len_seq rfl T.n_len PySem.boot_len (pa_cons (pv 0) pa_nil)) (pe_callB call_len_seq rfl T.n_len PySem.boot_len (pa_cons (pv 1) pa_nil)) (nomark _)) (pss_one (ps_ret pe_bl)) pss_nil)
   (pss_one (ps_ret (pe_callB (cr_all rfl) rfl T.n_all boot_all (pa_cons (pe_lc (own:=[("number",2),("count",3)]) (g:=gTup K 2 (gCons (gName 2) (gCons (gName 3) gNil))) rfl scAreConditions.nd (pi_zip rfl T.n_zip (pa_cons (pv 0) (pa_cons (pv 1) pa_nil))) (blkOk_by (show blkC ["row","props","number","count"] (defScope s_are_conditions) _ _=true by decide +kernel))
    (fun _ _ _ _ _=>pg_pair (i:=2) (j:=3) rfl scAreConditions.nd rfl (Or.inl rfl) rfl (Or.inl rfl) (Or.inr rfl) (Or.inr rfl)) (fun _ _ _ _ _=>pts_nil)
    (fun _ _ _ _ _=>pe_call (ok_within T) hr rfl T.x_within.m T.x_within.F.kp T.x_within.b .nil pass0 (pa_cons (pv 2) (pa_cons pe_int (pa_cons (pe_op op_sub (pv 3) pe_int) pa_nil))))) pa_nil)))),?_⟩
  refine ⟨_,rfl,a,_,rfl,.inl hA,_,rfl,b,_,rfl,.inl hB,rfl,_,rfl,?_⟩
  rw [List.length_map,List.length_map]
  by_cases hl:ns.length=ps.length
  ·have e0:(!decide (V.int (ns.length:Int)=V.int (ps.length:Int)))=false:=by rw [hl];simp
   rw [e0]
   refine iteF ?_
   refine ⟨_,rfl,_,rfl,a,b,_,_,rfl,hA,hB,fun D hD=>?_⟩
   refine lcz_map (xs:=ns.map V.int) (ys:=nv ps) (fun i=>.bl (Vbcjaj.inside (ns.getD i 0) 0 (Vbcjaj.whole (ps.getD i 0) - 1))) (by rw [List.length_map];exact hz) (by rw [List.length_map,List.length_map,hl]) hD hA hB (fun i x y U H' hx hy sm hU R hR=>?_) (fun H' sm e=>?_)
   ·obtain ⟨n,hn,rfl⟩:=get_map hx
    obtain ⟨c,hc,rfl⟩:=get_map hy
    have en:ns.getD i 0=n:=by rw [List.getD_eq_getElem?_getD,hn];rfl
    have ec:ps.getD i 0=c:=by rw [List.getD_eq_getElem?_getD,hc];rfl
    rw [en,ec] at hR
    refine ⟨U,_,rfl,SqT.of hU,rfl,_,_,rfl,_,_,rfl,rfl,rfl,?_⟩
    exact ⟨_,rfl,_,rfl,_,_,rfl,rfl,n,0,_,rfl,hR _ (Same.refl _)⟩
   ·rw [List.length_map,range_zip ns ps _ (fun n c=>V.bl (Vbcjaj.inside n 0 (Vbcjaj.whole c - 1))) hl.symm (fun i x y hx hy=>by rw [List.getD_eq_getElem?_getD,hx,List.getD_eq_getElem?_getD,hy];rfl)] at e
    refine ⟨D,(ns.zip ps).map fun x=>Vbcjaj.inside x.1 0 (Vbcjaj.whole x.2 - 1),rfl,SqL.of (by rw [e,List.map_map];rfl),?_⟩
    have q:=k _ sm
    unfold condsB at q
    rw [hl,beq_self_eq_true,Bool.true_and] at q
    rw [List.all_map]
    exact q
  ·have e0:(!decide (V.int (ns.length:Int)=V.int (ps.length:Int)))=true:=by
    rw [decide_eq_false (fun z=>hl (by injection z with z;omega))]
    rfl
   rw [e0]
   refine iteT ?_
   have q:=k _ (Same.refl _)
   unfold condsB at q
   rw [show (ns.length == ps.length)=false by simpa using hl,Bool.false_and] at q
   exact q
def itemF (m w:Nat) (n l r:Addr):List (Str × V):=[("minutes",.int m),("wait",.int w),("need",.ref n),("leave",.ref l),("rescue",.ref r)]
structure ItemAt (t:Ad) (M:List Addr) (H:Hp) (a:Addr) (it:Vbcjaj.Item) (n l r:Addr):Prop where
 ob:∃ dx,H a=some (.ins t.c_Item dx (itemF it.minutes it.wait n l r))
 need:H n=some (.lst (nv it.need))
 leave:H l=some (.lst (nv it.leave))
 rescue:H r=some (.lst (nv it.rescue))
 ma:a∉M
 mn:n∉M
 ml:l∉M
 mr:r∉M
def IsItem (t:Ad) (M:List Addr) (H:Hp) (a:Addr) (it:Vbcjaj.Item):Prop:=∃ n l r,ItemAt t M H a it n l r
theorem IsItem.mono {M:List Addr} {H H':Hp} {a:Addr} {it:Vbcjaj.Item} (h:IsItem t M H a it) (e:∀ b o,H b=some o→b∉M→H' b=some o):IsItem t M H' a it:=by
 obtain ⟨n,l,r,⟨dx,h0⟩,h1,h2,h3,m0,m1,m2,m3⟩:=h
 exact ⟨n,l,r,⟨dx,e _ _ h0 m0⟩,e _ _ h1 m1,e _ _ h2 m2,e _ _ h3 m3,m0,m1,m2,m3⟩
theorem IsItem.same {M:List Addr} {H H':Hp} {a:Addr} {it:Vbcjaj.Item} (h:IsItem t M H a it) (e:Same H H'):IsItem t M H' a it:=h.mono fun b o q _=>e b o q
def spItemInit (t:Ad):Sp:=fun vs H Q _=>∃ (p dx n l r:Addr) (m w:Nat),vs=[.ref p,.int m,.int w,.ref n,.ref l,.ref r]∧H p=some (.ins t.c_Item dx [])∧Q .non (upd H p (.ins t.c_Item dx (itemF m w n l r)))
theorem scItemInit:FnScope ["self","minutes","wait","need","leave","rescue"] ["self","minutes","wait","need","leave","rescue"] (defScope s_Item_init):=⟨rfl,rfl,rfl,by decide +kernel,rfl,by decide +kernel,by decide +kernel⟩
theorem ok_itemInit (T:Tx K mg t):FnOk P w K mg base CX0 1 t.f_Item_init t.d_Item_init ["self","minutes","wait","need","leave","rescue"] (spItemInit t):=by
 refine T.x_Item_init.ok scItemInit (fun vs H Q E h=>?_) (fun cdv A outer s H vs Q E hr h=>?_)
 ·obtain ⟨p,dx,n,l,r,m,w,rfl,_⟩:=h
  rfl
 ·obtain ⟨p,dx,n,l,r,m,w,rfl,hp,k⟩:=h
  refine ⟨_,pss_cons (ps_fld (pv 0) (pv 1) rfl) (pss_cons (ps_fld (pv 0) (pv 2) rfl) (pss_cons (ps_fld (pv 0) (pv 3) rfl) (pss_cons (ps_fld (pv 0) (pv 4) rfl) (pss_one (ps_fld (pv 0) (pv 5) rfl))))),?_⟩
  refine ⟨_,rfl,_,rfl,p,_,dx,_,rfl,hp,T.cl_Item,T.no_Item_minutes,by show 0 < 1000;decide,?_⟩
  refine ⟨_,rfl,_,rfl,p,_,dx,_,rfl,upd_same,T.cl_Item,T.no_Item_wait,by show 1 < 1000;decide,?_⟩
  refine ⟨_,rfl,_,rfl,p,_,dx,_,rfl,upd_same,T.cl_Item,T.no_Item_need,by show 2 < 1000;decide,?_⟩
  refine ⟨_,rfl,_,rfl,p,_,dx,_,rfl,upd_same,T.cl_Item,T.no_Item_leave,by show 3 < 1000;decide,?_⟩
  refine ⟨_,rfl,_,rfl,p,_,dx,_,rfl,upd_same,T.cl_Item,T.no_Item_rescue,by show 4 < 1000;decide,?_⟩
  show Q .non _
  rw [upd_upd,upd_upd,upd_upd,upd_upd]
  exact k
end
section
variable {P:Program} {w:World} {K:PySem.W.Frag} {mg:Str→Option Value} {base:Heap} {t:Ad}
def Few (l:List Nat):Prop:=∀ x∈l,x < 64
theorem dec_int_eq (a b:Nat):decide (V.int (a:Int)=V.int (b:Int))=decide (a=b):=by
 by_cases e:a=b
 ·rw [e];simp
 ·rw [decide_eq_false e,decide_eq_false (fun z=>e (by injection z with z;omega))]
theorem ifB {c:Bool} {A B:Prop} (h1:c=true→A) (h2:c=false→B):if c=true then A else B:=by
 cases c with
 | true=>exact h1 rfl
 | false=>exact h2 rfl
theorem zip_swap {α β γ:Type} (f:α→β→γ):∀ (l:List α) (m:List β),(l.zip m).map (fun x=>f x.1 x.2)=(m.zip l).map (fun x=>f x.2 x.1)
 | [],m=>by cases m <;> rfl
 | _::_,[]=>rfl
 | a::l,b::m=>by rw [List.zip_cons_cons,List.zip_cons_cons,List.map_cons,List.map_cons,zip_swap f l m]
def spIsSure (t:Ad) (K:PySem.W.Frag):Sp:=fun vs H Q _=>∃ (M:List Addr) (a b:Addr) (it:Vbcjaj.Item) (bs:List Nat),vs=[.ref a,.ref b]∧IsItem t M H a it∧SqL K H b (nv bs)∧it.need.length=bs.length∧bs.length≤sizeLine∧Few bs∧Few it.need∧∀ H',Same H H'→Q (.bl (Vbcjaj.sure bs it)) H'
theorem scIsSure:FnScope ["item","beliefs","belief","need"] ["item","beliefs"] (defScope s_is_sure):=⟨rfl,rfl,rfl,by decide +kernel,rfl,by decide +kernel,by decide +kernel⟩
theorem ok_isSure (T:Tx K mg t):FnOk P w K mg base CX0 1 t.f_is_sure t.d_is_sure ["item","beliefs"] (spIsSure t K):=by
 refine T.x_is_sure.F.ok scIsSure (fun vs H Q E h=>?_) (fun cdv A outer s H vs Q E hr h=>?_)
 ·obtain ⟨M,a,b,it,bs,rfl,_⟩:=h
  rfl
 ·obtain ⟨M,a,b,it,bs,rfl,⟨n,l,r,⟨dx,ho⟩,hn,_⟩,hB,hl,hz,f1,f2,k⟩:=h
  refine ⟨_,pss_one (ps_ret (pe_callB (cr_all rfl) rfl T.n_all boot_all (pa_cons (pe_lc (own:=[("belief",2),("need",3)]) (g:=gTup K 2 (gCons (gName 2) (gCons (gName 3) gNil))) rfl scIsSure.nd (pi_zip rfl T.n_zip (pa_cons (pv 1) (pa_cons (pe_fld (pv 0) rfl) pa_nil))) (blkOk_by (show blkC ["item","beliefs","belief","need"] (defScope s_is_sure) _ _=true by decide +kernel))
    (fun _ _ _ _ _=>pg_pair (i:=2) (j:=3) rfl scIsSure.nd rfl (Or.inl rfl) rfl (Or.inl rfl) (Or.inr rfl) (Or.inr rfl)) (fun _ _ _ _ _=>pts_nil)
    (fun _ _ _ _ _=>pe_cmpR op_eq (pe_op op_and (pv 2) (pv 3)) (pv 2) (nomark _))) pa_nil))),?_⟩
  refine ⟨_,rfl,_,rfl,a,_,dx,_,_,rfl,ho,T.cl_Item,T.no_Item_need,rfl,b,n,_,_,rfl,hB,SqL.of hn,fun D hD=>?_⟩
  refine lcz_map (xs:=nv bs) (ys:=nv it.need) (fun i=>.bl (Vbcjaj.within_ (bs.getD i 0) (it.need.getD i 0))) (by rw [List.length_map];exact hz) (by rw [List.length_map,List.length_map,hl]) hD hB (SqL.of hn) (fun i x y U H' hx hy sm hU R hR=>?_) (fun H' sm e=>?_)
  ·obtain ⟨p,hp,rfl⟩:=get_map hx
   obtain ⟨c,hc,rfl⟩:=get_map hy
   have en:bs.getD i 0=p:=by rw [List.getD_eq_getElem?_getD,hp];rfl
   have ec:it.need.getD i 0=c:=by rw [List.getD_eq_getElem?_getD,hc];rfl
   rw [en,ec] at hR
   refine ⟨U,_,rfl,SqT.of hU,rfl,_,_,rfl,_,_,rfl,rfl,rfl,?_⟩
   refine ⟨_,rfl,_,rfl,_,_,rfl,rfl,_,rfl,rfl,?_⟩
   have e:=CsM.and_sub ⟨p,f1 p (List.mem_of_getElem? hp)⟩ ⟨c,f2 c (List.mem_of_getElem? hc)⟩
   dsimp only at e
   have e2:decide (V.int (Builtin.bitAnd (p:Int) (c:Int))=V.int (p:Int))=decide (Builtin.bitAnd (p:Int) (c:Int)=(p:Int)):=by
    by_cases z:Builtin.bitAnd (p:Int) (c:Int)=(p:Int)
    ·rw [z];simp
    ·rw [decide_eq_false z,decide_eq_false (fun q=>z (by injection q))]
   rw [e2,e]
   exact hR _ (Same.refl _)
  ·rw [List.length_map,range_zip bs it.need _ (fun n c=>V.bl (Vbcjaj.within_ n c)) hl (fun i x y hx hy=>by rw [List.getD_eq_getElem?_getD,hx,List.getD_eq_getElem?_getD,hy];rfl)] at e
   refine ⟨D,(bs.zip it.need).map fun x=>Vbcjaj.within_ x.1 x.2,rfl,SqL.of (by rw [e,List.map_map];rfl),?_⟩
   rw [List.all_map]
   exact k _ sm
def newNats (H:Hp) (l:List Nat) (Q:VK):Prop:=∀ H' D,Same H H'→H D=none→H' D=some (.lst (nv l))→Q (.ref D) H'
def spLeftBy (K:PySem.W.Frag):Sp:=fun vs H Q _=>∃ (a b:Addr) (ls bs:List Nat),vs=[.ref a,.ref b]∧SqL K H a (nv ls)∧SqL K H b (nv bs)∧ls.length=bs.length∧bs.length≤sizeLine∧newNats H (Vbcjaj.leftBy bs ls) Q
theorem scLeftBy:FnScope ["leave","beliefs","left","belief"] ["leave","beliefs"] (defScope s_left_by):=⟨rfl,rfl,rfl,by decide +kernel,rfl,by decide +kernel,by decide +kernel⟩
theorem ok_leftBy (T:Tx K mg t):FnOk P w K mg base CX0 1 t.f_left_by t.d_left_by ["leave","beliefs"] (spLeftBy K):=by
 refine T.x_left_by.F.ok scLeftBy (fun vs H Q E h=>?_) (fun cdv A outer s H vs Q E hr h=>?_)
 ·obtain ⟨a,b,ls,bs,rfl,_⟩:=h
  rfl
 ·obtain ⟨a,b,ls,bs,rfl,hA,hB,hl,hz,k⟩:=h
  refine ⟨_,pss_one (ps_ret (pe_lc (own:=[("left",2),("belief",3)]) (g:=gTup K 2 (gCons (gName 2) (gCons (gName 3) gNil))) rfl scLeftBy.nd (pi_zip rfl T.n_zip (pa_cons (pv 0) (pa_cons (pv 1) pa_nil))) (blkOk_by (show blkC ["leave","beliefs","left","belief"] (defScope s_left_by) _ _=true by decide +kernel))
    (fun _ _ _ _ _=>pg_pair (i:=2) (j:=3) rfl scLeftBy.nd rfl (Or.inl rfl) rfl (Or.inl rfl) (Or.inr rfl) (Or.inr rfl)) (fun _ _ _ _ _=>pts_nil)
    (fun _ _ _ _ _=>pe_ifExp (pt_cmpR op_eq (pv 2) pe_int (nomark _)) (pv 3) (pv 2)))),?_⟩
  refine ⟨_,rfl,_,rfl,a,b,_,_,rfl,hA,hB,fun D hD=>?_⟩
  refine lcz_map (xs:=nv ls) (ys:=nv bs) (fun i=>.int ((if ls.getD i 0=0 then bs.getD i 0 else ls.getD i 0:Nat):Int)) (by rw [List.length_map,hl];exact hz) (by rw [List.length_map,List.length_map,hl]) hD hA hB (fun i x y U H' hx hy sm hU R hR=>?_) (fun H' sm e=>?_)
  ·obtain ⟨p,hp,rfl⟩:=get_map hx
   obtain ⟨c,hc,rfl⟩:=get_map hy
   have en:ls.getD i 0=p:=by rw [List.getD_eq_getElem?_getD,hp];rfl
   have ec:bs.getD i 0=c:=by rw [List.getD_eq_getElem?_getD,hc];rfl
   rw [en,ec] at hR
   refine ⟨U,_,rfl,SqT.of hU,rfl,_,_,rfl,_,_,rfl,rfl,rfl,?_⟩
   refine ⟨_,rfl,rfl,_,rfl,?_⟩
   show if decide (V.int (p:Int)=V.int ((0:Nat):Int))=true then _ else _
   rw [dec_int_eq p 0]
   refine ifB (fun z=>?_) (fun z=>?_)
   ·have z':p=0:=of_decide_eq_true z
    rw [if_pos z'] at hR
    exact ⟨_,rfl,hR _ (Same.refl _)⟩
   ·have z':¬ p=0:=of_decide_eq_false z
    rw [if_neg z'] at hR
    exact ⟨_,rfl,hR _ (Same.refl _)⟩
  ·refine k _ D sm hD ?_
   rw [e,List.length_map,range_zip ls bs _ (fun (n c:Nat)=>V.int ((if n=0 then c else n:Nat):Int)) hl.symm (fun i x y hx hy=>by rw [List.getD_eq_getElem?_getD,hx,List.getD_eq_getElem?_getD,hy];rfl)]
   unfold Vbcjaj.leftBy nv
   rw [List.map_map,zip_swap (fun (n c:Nat)=>V.int ((if n=0 then c else n:Nat):Int))]
   rfl
theorem leftBy_len {bs ls:List Nat} (h:ls.length=bs.length):(Vbcjaj.leftBy bs ls).length=bs.length:=by
 unfold Vbcjaj.leftBy
 rw [List.length_map,List.length_zip]
 omega
theorem leftBy_few {bs ls:List Nat} (h:Few bs) (h':Few ls):Few (Vbcjaj.leftBy bs ls):=fun x hx=>by
 unfold Vbcjaj.leftBy at hx
 obtain ⟨y,hy,rfl⟩:=List.mem_map.mp hx
 have:=List.of_mem_zip hy
 split
 ·exact h _ this.1
 ·exact h' _ this.2
def spBehind (t:Ad) (K:PySem.W.Frag):Sp:=fun vs H Q _=>∃ (M:List Addr) (a b:Addr) (it:Vbcjaj.Item) (bs:List Nat),vs=[.ref a,.ref b]∧IsItem t M H a it∧SqL K H b (nv bs)∧bs.length≤sizeLine∧it.leave.length=bs.length∧(it.wait≠0→it.rescue.length=bs.length)∧Few bs∧Few it.leave∧Few it.rescue∧newNats H (Vbcjaj.behind bs it) Q
theorem scBehind:FnScope ["item","beliefs","usual","rescued","one","other"] ["item","beliefs"] (defScope s_believed_behind):=⟨rfl,rfl,rfl,by decide +kernel,rfl,by decide +kernel,by decide +kernel⟩
theorem ok_behind (T:Tx K mg t):FnOk P w K mg base CX0 2 t.f_believed_behind t.d_believed_behind ["item","beliefs"] (spBehind t K):=by
 refine T.x_believed_behind.F.ok scBehind (fun vs H Q E h=>?_) (fun cdv A outer s H vs Q E hr h=>?_)
 ·obtain ⟨M,a,b,it,bs,rfl,_⟩:=h
  rfl
 ·obtain ⟨M,a,b,it,bs,rfl,⟨n,l,r,⟨dx,ho⟩,hn,hlv,hrs,_⟩,hB,hz,hl,hr',f1,f2,f3,k⟩:=h
  refine ⟨_,pss_cons (ps_set (i:=2) scBehind.nd rfl (Or.inl rfl) (pe_call (ok_leftBy T) hr rfl T.x_left_by.m T.x_left_by.F.kp T.x_left_by.b .nil pass0 (pa_cons (pe_fld (pv 0) rfl) (pa_cons (pv 1) pa_nil))))
   (pss_cons (ps_if (pt_cmpR op_eq (pe_fld (pv 0) rfl) pe_int (nomark _)) (pss_one (ps_ret (pv 2))) pss_nil)
   (pss_cons (ps_set (i:=3) scBehind.nd rfl (Or.inl rfl) (pe_call (ok_leftBy T) hr rfl T.x_left_by.m T.x_left_by.F.kp T.x_left_by.b .nil pass0 (pa_cons (pe_fld (pv 0) rfl) (pa_cons (pv 1) pa_nil))))
   (pss_one (ps_ret (pe_lc (own:=[("one",4),("other",5)]) (g:=gTup K 2 (gCons (gName 4) (gCons (gName 5) gNil))) rfl scBehind.nd (pi_zip rfl T.n_zip (pa_cons (pv 2) (pa_cons (pv 3) pa_nil))) (blkOk_by (show blkC ["item","beliefs","usual","rescued","one","other"] (defScope s_believed_behind) _ _=true by decide +kernel))
    (fun _ _ _ _ _=>pg_pair (i:=4) (j:=5) rfl scBehind.nd rfl (Or.inl rfl) rfl (Or.inl rfl) (Or.inr rfl) (Or.inr rfl)) (fun _ _ _ _ _=>pts_nil)
    (fun _ _ _ _ _=>pe_op op_or (pv 4) (pv 5))))))),?_⟩
  refine ⟨_,rfl,a,_,dx,_,_,rfl,ho,T.cl_Item,T.no_Item_leave,rfl,_,rfl,l,b,it.leave,bs,rfl,SqL.of hlv,hB,hl,hz,fun H1 U s1 nU hU=>?_⟩
  refine ⟨_,rfl,a,_,dx,_,_,rfl,s1 _ _ ho,T.cl_Item,T.no_Item_wait,rfl,rfl,_,rfl,?_⟩
  show if decide (V.int (it.wait:Int)=V.int ((0:Nat):Int))=true then _ else _
  rw [dec_int_eq it.wait 0]
  refine ifB (fun z=>?_) (fun z=>?_)
  ·have z':it.wait=0:=of_decide_eq_true z
   refine ⟨_,rfl,k H1 U s1 nU ?_⟩
   unfold Vbcjaj.behind
   rw [if_pos z']
   exact hU
  ·have z':¬ it.wait=0:=of_decide_eq_false z
   have hr2:=hr' z'
   refine ⟨_,rfl,a,_,dx,_,_,rfl,s1 _ _ ho,T.cl_Item,T.no_Item_rescue,rfl,_,rfl,r,b,it.rescue,bs,rfl,SqL.of (s1 _ _ hrs),s1.seq hB,hr2,hz,fun H2 V' s2 nV hV=>?_⟩
   refine ⟨_,rfl,_,rfl,U,V',_,_,rfl,SqL.of (s2 _ _ hU),SqL.of hV,fun D hD=>?_⟩
   have l1:=leftBy_len hl
   have l2:=leftBy_len hr2
   refine lcz_map (xs:=nv (Vbcjaj.leftBy bs it.leave)) (ys:=nv (Vbcjaj.leftBy bs it.rescue)) (fun i=>.int ((Vbcjaj.join ((Vbcjaj.leftBy bs it.leave).getD i 0) ((Vbcjaj.leftBy bs it.rescue).getD i 0):Nat):Int)) (by rw [List.length_map,l1];exact hz) (by rw [List.length_map,List.length_map,l1,l2]) hD (SqL.of (s2 _ _ hU)) (SqL.of hV) (fun i x y W H' hx hy sm hW R hR=>?_) (fun H' sm e=>?_)
   ·obtain ⟨p,hp,rfl⟩:=get_map hx
    obtain ⟨c,hc,rfl⟩:=get_map hy
    have en:(Vbcjaj.leftBy bs it.leave).getD i 0=p:=by rw [List.getD_eq_getElem?_getD,hp];rfl
    have ec:(Vbcjaj.leftBy bs it.rescue).getD i 0=c:=by rw [List.getD_eq_getElem?_getD,hc];rfl
    rw [en,ec] at hR
    refine ⟨W,_,rfl,SqT.of hW,rfl,_,_,rfl,_,_,rfl,rfl,rfl,?_⟩
    refine ⟨_,rfl,_,rfl,_,_,rfl,rfl,?_⟩
    have e:=CsM.or_join ⟨p,leftBy_few f1 f2 p (List.mem_of_getElem? hp)⟩ ⟨c,leftBy_few f1 f3 c (List.mem_of_getElem? hc)⟩
    dsimp only at e
    try dsimp only
    rw [e]
    exact hR _ (Same.refl _)
   ·have nD:H D=none:=(s1.trans s2).free hD
    refine k _ D ((s1.trans s2).trans sm) nD ?_
    rw [e,List.length_map,range_zip (Vbcjaj.leftBy bs it.leave) (Vbcjaj.leftBy bs it.rescue) _ (fun (n c:Nat)=>V.int ((Vbcjaj.join n c:Nat):Int)) (l2.trans l1.symm) (fun i x y hx hy=>by rw [List.getD_eq_getElem?_getD,hx,List.getD_eq_getElem?_getD,hy];rfl)]
    unfold Vbcjaj.behind
    rw [if_neg z']
    unfold nv
    rw [List.map_map]
    rfl
end
section
variable {P:Program} {w:World} {K:PySem.W.Frag} {mg:Str→Option Value} {base:Heap} {t:Ad}
def houseF (pa ta ra:Addr) (limit delay:Nat) (ba:Addr):List (Str × V):=[("props",.ref pa),("tricks",.ref ta),("resets",.ref ra),("limit",.int limit),("delay",.int delay),("beliefs",.ref ba)]
def ofTrick (x:Vbcjaj.Trick):Vbcjaj.Item:=⟨x.minutes,x.wait,x.need,x.leave,x.rescue⟩
def ofReset (x:Vbcjaj.Reset):Vbcjaj.Item:=⟨x.minutes,0,x.need,x.leave,[]⟩
structure Row (t:Ad) (M:List Addr) (H:Hp) (as:List Addr) (its:List Vbcjaj.Item):Prop where
 len:as.length=its.length
 at_:∀ (i:Nat) (x:Addr) (it:Vbcjaj.Item),as[i]?=some x→its[i]?=some it→IsItem t M H x it
theorem Row.mono {M:List Addr} {H H':Hp} {as:List Addr} {its:List Vbcjaj.Item} (h:Row t M H as its) (e:∀ b o,H b=some o→b∉M→H' b=some o):Row t M H' as its:=⟨h.len,fun i x it h1 h2=>(h.at_ i x it h1 h2).mono e⟩
structure HouseAt (t:Ad) (M:List Addr) (H:Hp) (a:Addr) (h:Vbcjaj.House) (pa ta ra ba:Addr) (ts rs:List Addr):Prop where
 ob:∃ dx,H a=some (.ins t.c_House dx (houseF pa ta ra h.limit h.delay ba))
 props:H pa=some (.lst (nv h.props))
 tricks:H ta=some (.lst (ts.map V.ref))
 resets:H ra=some (.lst (rs.map V.ref))
 beliefs:H ba=some (.lst (nv h.begin_))
 tr:Row t M H ts (h.tricks.map ofTrick)
 rr:Row t M H rs (h.resets.map ofReset)
 mp:pa∉M
 mb:ba∉M
def IsHouse (t:Ad) (M:List Addr) (H:Hp) (a:Addr) (h:Vbcjaj.House):Prop:=∃ pa ta ra ba ts rs,HouseAt t M H a h pa ta ra ba ts rs
theorem IsHouse.same {M:List Addr} {H H':Hp} {a:Addr} {h:Vbcjaj.House} (x:IsHouse t M H a h) (e:Same H H'):IsHouse t M H' a h:=by
 obtain ⟨pa,ta,ra,ba,ts,rs,⟨dx,h0⟩,h1,h2,h3,h4,h5,h6,m1,m2⟩:=x
 exact ⟨pa,ta,ra,ba,ts,rs,⟨dx,e _ _ h0⟩,e _ _ h1,e _ _ h2,e _ _ h3,e _ _ h4,h5.mono fun b o q _=>e b o q,h6.mono fun b o q _=>e b o q,m1,m2⟩
structure GoodItem (n:Nat) (it:Vbcjaj.Item):Prop where
 min1:1≤it.minutes
 min60:it.minutes≤60
 wait:it.wait≤20
 need:it.need.length=n
 leave:it.leave.length=n
 rescue:it.wait≠0→it.rescue.length=n
 f1:Few it.need
 f2:Few it.leave
 f3:Few it.rescue
 rl:it.rescue.length≤n
structure Wf (h:Vbcjaj.House):Prop where
 pl:h.props.length≤4
 pc:∀ p∈h.props,2≤p∧p≤6
 tl:h.tricks.length≤8
 rl:h.resets.length≤6
 tg:∀ x∈h.tricks,GoodItem h.props.length (ofTrick x)
 rg:∀ x∈h.resets,GoodItem h.props.length (ofReset x)
 bl:h.begin_.length=h.props.length
 bf:Few h.begin_
 lim:h.limit≤480
 dly:h.delay≤20
theorem itemAt_good {h:Vbcjaj.House} (W:Wf h) {i:Nat} {it:Vbcjaj.Item} (e:Vbcjaj.itemAt h i=some it):GoodItem h.props.length it:=by
 unfold Vbcjaj.itemAt at e
 split at e
 ·obtain ⟨x,hx,rfl⟩:=Option.map_eq_some_iff.mp e
  exact W.tg x (List.mem_of_getElem? hx)
 ·obtain ⟨x,hx,rfl⟩:=Option.map_eq_some_iff.mp e
  exact W.rg x (List.mem_of_getElem? hx)
theorem Wf.long {h:Vbcjaj.House} (W:Wf h):CsM.Long h:=fun i it e=>(itemAt_good W e).min1
def spIsTrick:Sp:=fun vs H Q _=>∃ i:Nat,vs=[.int i]∧Q (.bl (decide (i < 8))) H
theorem scIsTrick:FnScope ["number"] ["number"] (defScope s_is_trick):=⟨rfl,rfl,rfl,by decide +kernel,rfl,by decide +kernel,by decide +kernel⟩
theorem dec_lt (i n:Nat):decide ((i:Int) < (n:Int))=decide (i < n):=by
 by_cases e:i < n
 ·rw [decide_eq_true e,decide_eq_true (by omega)]
 ·rw [decide_eq_false e,decide_eq_false (by omega)]
theorem ok_isTrick (T:Tx K mg t):FnOk P w K mg base CX0 1 t.f_is_trick t.d_is_trick ["number"] spIsTrick:=by
 refine T.x_is_trick.F.ok scIsTrick (fun vs H Q E h=>?_) (fun cdv A outer s H vs Q E hr h=>?_)
 ·obtain ⟨i,rfl,_⟩:=h
  rfl
 ·obtain ⟨i,rfl,k⟩:=h
  refine ⟨_,pss_one (ps_ret (pe_cmpR op_lt (pv 0) (pe_const rfl T.k_FIRST_RESET) (nomark _))),?_⟩
  refine ⟨_,rfl,_,_,rfl,rfl,?_⟩
  have e:=dec_lt i 8
  rw [← e] at k
  exact k
def OptItem (t:Ad) (M:List Addr) (H:Hp) (v:V) (o:Option Vbcjaj.Item):Prop:=(o=none∧v=.non)∨∃ x it,o=some it∧v=.ref x∧IsItem t M H x it
def spItemAt (t:Ad):Sp:=fun vs H Q _=>∃ (M:List Addr) (a:Addr) (i:Nat) (h:Vbcjaj.House),vs=[.ref a,.int i]∧IsHouse t M H a h∧∀ v,OptItem t M H v (Vbcjaj.itemAt h i)→Q v H
theorem scItemAt:FnScope ["house","number","row","place"] ["house","number"] (defScope s_item_at):=⟨rfl,rfl,rfl,by decide +kernel,rfl,by decide +kernel,by decide +kernel⟩
theorem ok_itemAt (T:Tx K mg t):FnOk P w K mg base CX0 2 t.f_item_at t.d_item_at ["house","number"] (spItemAt t):=by
 refine T.x_item_at.F.ok scItemAt (fun vs H Q E h=>?_) (fun cdv A outer s H vs Q E hr h=>?_)
 ·obtain ⟨M,a,i,h,rfl,_⟩:=h
  rfl
 ·obtain ⟨M,a,i,h,rfl,⟨pa,ta,ra,ba,ts,rs,⟨dx,ho⟩,hp,ht,hrs,hb,tr,rr,_⟩,k⟩:=h
  refine ⟨_,pss_cons (ps_set (i:=2) scItemAt.nd rfl (Or.inl rfl) (pe_ifExp (pt_val (pe_call (ok_isTrick T) hr rfl T.x_is_trick.m T.x_is_trick.F.kp T.x_is_trick.b .nil pass0 (pa_cons (pv 1) pa_nil))) (pe_fld (pv 0) rfl) (pe_fld (pv 0) rfl)))
   (pss_cons (ps_set (i:=3) scItemAt.nd rfl (Or.inl rfl) (pe_ifExp (pt_val (pe_call (ok_isTrick T) hr rfl T.x_is_trick.m T.x_is_trick.F.kp T.x_is_trick.b .nil pass0 (pa_cons (pv 1) pa_nil))) (pv 1) (pe_op op_sub (pv 1) (pe_const rfl T.k_FIRST_RESET))))
   (pss_one (ps_ret (pe_ifExp (pt_cmpR op_lt (pv 3) (pe_callB call_len_seq rfl T.n_len PySem.boot_len (pa_cons (pv 2) pa_nil)) (nomark _)) (pe_ix ix_list (pv 2) (pv 3) (fun _ _=>rfl)) pe_non)))),?_⟩
  refine ⟨_,rfl,i,rfl,_,rfl,ifB (fun z=>?_) (fun z=>?_)⟩
  ·refine ⟨_,rfl,a,_,dx,_,_,rfl,ho,T.cl_House,T.no_House_tricks,rfl,?_⟩
   refine ⟨_,rfl,i,rfl,_,rfl,?_⟩
   rw [z]
   refine iteT ?_
   have hi:i < 8:=of_decide_eq_true z
   refine ⟨_,rfl,?_⟩
   refine ⟨_,rfl,_,rfl,ta,_,rfl,.inl (SqL.of ht),_,_,rfl,rfl,_,rfl,?_⟩
   rw [List.length_map]
   show if decide ((i:Int) < (ts.length:Int))=true then _ else _
   rw [dec_lt]
   refine ifB (fun y=>?_) (fun y=>?_)
   ·have hlt:i < ts.length:=of_decide_eq_true y
    refine ⟨_,rfl,_,rfl,ta,_,_,_,rfl,rfl,SqL.of ht,at_of rfl (by rw [List.getElem?_map,List.getElem?_eq_getElem hlt];rfl),k _ (.inr ?_)⟩
    have h2:i < h.tricks.length:=by have:=tr.len;rw [List.length_map] at this;omega
    refine ⟨ts[i],ofTrick h.tricks[i],?_,rfl,tr.at_ i _ _ (List.getElem?_eq_getElem hlt) (by rw [List.getElem?_map,List.getElem?_eq_getElem h2];rfl)⟩
    unfold Vbcjaj.itemAt
    rw [if_pos hi,List.getElem?_eq_getElem h2]
    rfl
   ·have hge:¬ i < ts.length:=of_decide_eq_false y
    refine k _ (.inl ⟨?_,rfl⟩)
    unfold Vbcjaj.itemAt
    have h2:h.tricks.length≤i:=by have:=tr.len;rw [List.length_map] at this;omega
    rw [if_pos hi,List.getElem?_eq_none h2]
    rfl
  ·refine ⟨_,rfl,a,_,dx,_,_,rfl,ho,T.cl_House,T.no_House_resets,rfl,?_⟩
   refine ⟨_,rfl,i,rfl,_,rfl,?_⟩
   rw [z]
   refine iteF ?_
   have hi:¬ i < 8:=of_decide_eq_false z
   refine ⟨_,rfl,_,_,rfl,rfl,?_⟩
   have e8:((i:Int) - 8)=((i - 8:Nat):Int):=by omega
   try dsimp only
   rw [e8]
   refine ⟨_,rfl,_,rfl,ra,_,rfl,.inl (SqL.of hrs),_,_,rfl,rfl,_,rfl,?_⟩
   rw [List.length_map]
   show if decide (((i - 8:Nat):Int) < (rs.length:Int))=true then _ else _
   rw [dec_lt]
   refine ifB (fun y=>?_) (fun y=>?_)
   ·have hlt:i - 8 < rs.length:=of_decide_eq_true y
    refine ⟨_,rfl,_,rfl,ra,_,_,_,rfl,rfl,SqL.of hrs,at_of rfl (by rw [List.getElem?_map,List.getElem?_eq_getElem hlt];rfl),k _ (.inr ?_)⟩
    have h2:i - 8 < h.resets.length:=by have:=rr.len;rw [List.length_map] at this;omega
    refine ⟨rs[i - 8],ofReset h.resets[i - 8],?_,rfl,rr.at_ (i - 8) _ _ (List.getElem?_eq_getElem hlt) (by rw [List.getElem?_map,List.getElem?_eq_getElem h2];rfl)⟩
    unfold Vbcjaj.itemAt
    rw [if_neg hi,List.getElem?_eq_getElem h2]
    rfl
   ·have hge:¬ i - 8 < rs.length:=of_decide_eq_false y
    refine k _ (.inl ⟨?_,rfl⟩)
    unfold Vbcjaj.itemAt
    have h2:h.resets.length≤i - 8:=by have:=rr.len;rw [List.length_map] at this;omega
    rw [if_neg hi,List.getElem?_eq_none h2]
    rfl
end
theorem join_few {a b:Nat} (ha:a < 64) (hb:b < 64):Vbcjaj.join a b < 64:=CsM.join_lt ⟨a,ha⟩ ⟨b,hb⟩
theorem behind_few {bs:List Nat} {it:Vbcjaj.Item} (h:Few bs) (h2:Few it.leave) (h3:Few it.rescue):Few (Vbcjaj.behind bs it):=by
 unfold Vbcjaj.behind
 split
 ·exact leftBy_few h h2
 ·intro x hx
  obtain ⟨y,hy,rfl⟩:=List.mem_map.mp hx
  have m:=List.of_mem_zip hy
  exact join_few (leftBy_few h h2 _ m.1) (leftBy_few h h3 _ m.2)
theorem behind_len {bs:List Nat} {it:Vbcjaj.Item} (h2:it.leave.length=bs.length) (h3:it.wait≠0→it.rescue.length=bs.length):(Vbcjaj.behind bs it).length=bs.length:=by
 unfold Vbcjaj.behind
 split
 ·exact leftBy_len h2
 ·rw [List.length_map,List.length_zip,leftBy_len h2,leftBy_len (h3 ‹_›)]
  omega
structure Good (h:Vbcjaj.House) (x:Vbcjaj.Waiting):Prop where
 srt:x.going.done.Pairwise (· < ·)
 lt8:∀ y∈x.going.done,y < 8
 bl:x.going.beliefs.length=h.props.length
 bf:Few x.going.beliefs
 lim:x.going.minutes≤h.limit
 pl:x.plan.length≤x.going.minutes
theorem Good.fresh {h:Vbcjaj.House} (W:Wf h):Good h ⟨Vbcjaj.fresh h,[]⟩:=⟨.nil,(fun _ z=>nomatch z),W.bl,W.bf,Nat.zero_le _,Nat.le_refl _⟩
theorem goOn_cases {h:Vbcjaj.House} {g:Vbcjaj.Going} {i:Nat}:(Vbcjaj.itemAt h i=none∧Vbcjaj.goOn h g i=.error 1)∨∃ it,Vbcjaj.itemAt h i=some it ∧
  (((i < 8∧g.done.contains i=true)∧Vbcjaj.goOn h g i=.error 2)∨(¬ (i < 8∧g.done.contains i=true) ∧
   ((Vbcjaj.sure g.beliefs it=false∧Vbcjaj.goOn h g i=.error 3)∨(Vbcjaj.sure g.beliefs it=true ∧
    ((h.limit < g.minutes + it.minutes∧Vbcjaj.goOn h g i=.error 4) ∨
     (¬ h.limit < g.minutes + it.minutes∧Vbcjaj.goOn h g i=.ok ⟨if i < 8 then Vbcjaj.putNat i g.done else g.done,Vbcjaj.behind g.beliefs it,g.minutes + it.minutes⟩)))))):=by
 unfold Vbcjaj.goOn
 cases e:Vbcjaj.itemAt h i with
 | none=>exact .inl ⟨rfl,rfl⟩
 | some it =>
  refine .inr ⟨it,rfl,?_⟩
  try dsimp only
  by_cases h1:i < 8∧g.done.contains i=true
  ·exact .inl ⟨h1,if_pos h1⟩
  ·refine .inr ⟨h1,?_⟩
   rw [if_neg h1]
   cases h2:Vbcjaj.sure g.beliefs it with
   | false=>exact .inl ⟨rfl,if_pos rfl⟩
   | true =>
    refine .inr ⟨rfl,?_⟩
    rw [if_neg (by simp)]
    by_cases h3:h.limit < g.minutes + it.minutes
    ·exact .inl ⟨h3,if_pos h3⟩
    ·exact .inr ⟨h3,if_neg h3⟩
theorem Good.next {h:Vbcjaj.House} (W:Wf h) {x:Vbcjaj.Waiting} (G:Good h x) {i:Nat} {g:Vbcjaj.Going} (e:Vbcjaj.goOn h x.going i=.ok g):Good h ⟨g,x.plan++[i]⟩:=by
 rcases goOn_cases (h:=h) (g:=x.going) (i:=i) with ⟨_,q⟩ | ⟨it,hi,⟨_,q⟩ | ⟨hn,⟨_,q⟩ | ⟨_,⟨_,q⟩ | ⟨hl,q⟩⟩⟩⟩
 ·rw [q] at e;cases e
 ·rw [q] at e;cases e
 ·rw [q] at e;cases e
 ·rw [q] at e;cases e
 ·rw [q] at e
  cases e
  have gi:=itemAt_good W hi
  have m1:=gi.min1
  refine ⟨?_,?_,?_,behind_few G.bf gi.f2 gi.f3,by show x.going.minutes + it.minutes≤h.limit;omega,?_⟩
  ·show (if i < 8 then Vbcjaj.putNat i x.going.done else x.going.done).Pairwise (· < ·)
   split
   ·rename_i h8
    exact CsM.putNat_sorted G.srt fun z=>hn ⟨h8,by simpa using z⟩
   ·exact G.srt
  ·show ∀ y∈(if i < 8 then Vbcjaj.putNat i x.going.done else x.going.done),y < 8
   split
   ·rename_i h8
    intro y hy
    rcases CsM.putNat_mem.mp hy with rfl | hy
    ·exact h8
    ·exact G.lt8 y hy
   ·exact G.lt8
  ·show (Vbcjaj.behind x.going.beliefs it).length=_
   rw [behind_len (gi.leave.trans G.bl.symm) (fun z=>(gi.rescue z).trans G.bl.symm),G.bl]
  ·show (x.plan++[i]).length≤x.going.minutes + it.minutes
   rw [List.length_append]
   have:=G.pl
   simp
   omega
theorem Good.short {h:Vbcjaj.House} {x:Vbcjaj.Waiting} (G:Good h x):x.going.done.length≤8:=CsM.short_of G.srt G.lt8
section
variable {P:Program} {w:World} {K:PySem.W.Frag} {mg:Str→Option Value} {base:Heap} {t:Ad}
def planF (o:Addr) (m:Nat) (d b:Addr):List (Str × V):=[("order",.ref o),("minutes",.int m),("done",.ref d),("beliefs",.ref b)]
structure PlanAt (t:Ad) (M:List Addr) (H:Hp) (a:Addr) (x:Vbcjaj.Waiting) (o d b:Addr):Prop where
 ob:∃ dx,H a=some (.ins t.c_Plan dx (planF o x.going.minutes d b))
 order:H o=some (.lst (nv x.plan))
 done:H d=some (.lst (nv x.going.done))
 beliefs:H b=some (.lst (nv x.going.beliefs))
 ma:a∉M
 mo:o∉M
 md:d∉M
 mb:b∉M
def IsPlan (t:Ad) (M:List Addr) (H:Hp) (a:Addr) (x:Vbcjaj.Waiting):Prop:=∃ o d b,PlanAt t M H a x o d b
theorem IsPlan.mono {M:List Addr} {H H':Hp} {a:Addr} {x:Vbcjaj.Waiting} (h:IsPlan t M H a x) (e:∀ b o,H b=some o→b∉M→H' b=some o):IsPlan t M H' a x:=by
 obtain ⟨o,d,b,⟨dx,h0⟩,h1,h2,h3,m0,m1,m2,m3⟩:=h
 exact ⟨o,d,b,⟨dx,e _ _ h0 m0⟩,e _ _ h1 m1,e _ _ h2 m2,e _ _ h3 m3,m0,m1,m2,m3⟩
theorem IsPlan.same {M:List Addr} {H H':Hp} {a:Addr} {x:Vbcjaj.Waiting} (h:IsPlan t M H a x) (e:Same H H'):IsPlan t M H' a x:=h.mono fun b o q _=>e b o q
def There (M:List Addr) (H:Hp):Prop:=∀ m∈M,∃ o,H m=some o
theorem There.not {M:List Addr} {H:Hp} (h:There M H) {a:Addr} (e:H a=none):a∉M:=fun z=>by
 obtain ⟨o,q⟩:=h a z
 rw [e] at q
 cases q
theorem There.same {M:List Addr} {H H':Hp} (h:There M H) (e:Same H H'):There M H':=fun m hm=>let ⟨o,q⟩:=h m hm;⟨o,e _ _ q⟩
def newPlan (t:Ad) (M:List Addr) (H:Hp) (x:Vbcjaj.Waiting) (Q:VK):Prop:=∀ H' a,Same H H'→IsPlan t M H' a x→Q (.ref a) H'
def spPlanInit (t:Ad):Sp:=fun vs H Q _=>∃ (p dx o d b:Addr) (m:Nat),vs=[.ref p,.ref o,.int m,.ref d,.ref b]∧H p=some (.ins t.c_Plan dx [])∧Q .non (upd H p (.ins t.c_Plan dx (planF o m d b)))
theorem scPlanInit:FnScope ["self","order","minutes","done","beliefs"] ["self","order","minutes","done","beliefs"] (defScope s_Plan_init):=⟨rfl,rfl,rfl,by decide +kernel,rfl,by decide +kernel,by decide +kernel⟩
theorem ok_planInit (T:Tx K mg t):FnOk P w K mg base CX0 1 t.f_Plan_init t.d_Plan_init ["self","order","minutes","done","beliefs"] (spPlanInit t):=by
 refine T.x_Plan_init.ok scPlanInit (fun vs H Q E h=>?_) (fun cdv A outer s H vs Q E hr h=>?_)
 ·obtain ⟨p,dx,o,d,b,m,rfl,_⟩:=h
  rfl
 ·obtain ⟨p,dx,o,d,b,m,rfl,hp,k⟩:=h
  refine ⟨_,pss_cons (ps_fld (pv 0) (pv 1) rfl) (pss_cons (ps_fld (pv 0) (pv 2) rfl) (pss_cons (ps_fld (pv 0) (pv 3) rfl) (pss_one (ps_fld (pv 0) (pv 4) rfl)))),?_⟩
  refine ⟨_,rfl,_,rfl,p,_,dx,_,rfl,hp,T.cl_Plan,T.no_Plan_order,by show 0 < 1000;decide,?_⟩
  refine ⟨_,rfl,_,rfl,p,_,dx,_,rfl,upd_same,T.cl_Plan,T.no_Plan_minutes,by show 1 < 1000;decide,?_⟩
  refine ⟨_,rfl,_,rfl,p,_,dx,_,rfl,upd_same,T.cl_Plan,T.no_Plan_done,by show 2 < 1000;decide,?_⟩
  refine ⟨_,rfl,_,rfl,p,_,dx,_,rfl,upd_same,T.cl_Plan,T.no_Plan_beliefs,by show 3 < 1000;decide,?_⟩
  show Q .non _
  rw [upd_upd,upd_upd,upd_upd]
  exact k
theorem plan_made {M:List Addr} {H:Hp} {x:Vbcjaj.Waiting} {o d b p dx:Addr} (np:H p=none) (nd:H dx=none) (ne:dx≠p) (th:There M H) (ho:H o=some (.lst (nv x.plan))) (hd:H d=some (.lst (nv x.going.done))) (hb:H b=some (.lst (nv x.going.beliefs))) (mo:o∉M) (md:d∉M) (mb:b∉M) :
  Same H (upd (upd (upd H dx (.own p)) p (.ins t.c_Plan dx [])) p (.ins t.c_Plan dx (planF o x.going.minutes d b)))∧IsPlan t M (upd (upd (upd H dx (.own p)) p (.ins t.c_Plan dx [])) p (.ins t.c_Plan dx (planF o x.going.minutes d b))) p x:=by
 rw [upd_upd]
 have sm:Same H (upd (upd H dx (.own p)) p (.ins t.c_Plan dx (planF o x.going.minutes d b))):=fun c u e=>by
  rw [upd_ne (ne_of_none e np),upd_ne (ne_of_none e nd)]
  exact e
 exact ⟨sm,o,d,b,⟨dx,upd_same⟩,sm _ _ ho,sm _ _ hd,sm _ _ hb,th.not np,mo,md,mb⟩
def spEmptyPlan (t:Ad):Sp:=fun vs H Q _=>∃ (M M':List Addr) (a:Addr) (h:Vbcjaj.House),vs=[.ref a]∧IsHouse t M' H a h∧There M H∧h.begin_.length≤sizeLine∧newPlan t M H ⟨Vbcjaj.fresh h,[]⟩ Q
theorem scEmptyPlan:FnScope ["house"] ["house"] (defScope s_empty_plan):=⟨rfl,rfl,rfl,by decide +kernel,rfl,by decide +kernel,by decide +kernel⟩
theorem ok_emptyPlan (T:Tx K mg t):FnOk P w K mg base CX0 3 t.f_empty_plan t.d_empty_plan ["house"] (spEmptyPlan t):=by
 refine T.x_empty_plan.F.ok scEmptyPlan (fun vs H Q E h=>?_) (fun cdv A outer s H vs Q E hr h=>?_)
 ·obtain ⟨M,M',a,h,rfl,_⟩:=h
  rfl
 ·obtain ⟨M,M',a,h,rfl,⟨pa,ta,ra,ba,ts,rs,⟨dx,ho⟩,hp,ht,hrs,hb,tr,rr,_⟩,th,hz,k⟩:=h
  refine ⟨_,pss_one (ps_ret (pe_make T.mk_Plan (ok_planInit T) hr rfl T.mg_Plan T.b_Plan_init .nil pass0 (pa_cons (pe_lst pa_nil) (pa_cons pe_int (pa_cons (pe_lst pa_nil) (pa_cons (pe_callTy call_list_of rfl T.n_list boot_list (pa_cons (pe_fld (pv 0) rfl) pa_nil)) pa_nil)))))),?_⟩
  refine ⟨Nat.zero_le _,fun l1 n1=>⟨Nat.zero_le _,fun l2 n2=>?_⟩⟩
  have s1:Same H (upd H l1 (.lst [])):=Same.new n1
  have s2:Same (upd H l1 (.lst [])) (upd (upd H l1 (.lst [])) l2 (.lst [])):=Same.new n2
  have s12:=s1.trans s2
  refine ⟨_,rfl,a,_,dx,_,_,rfl,s12 _ _ ho,T.cl_House,T.no_House_beliefs,rfl,ba,_,rfl,.inl (SqL.of (s12 _ _ hb)),fun l3 n3=>?_⟩
  have s3:=Same.new (o:=HO.lst (nv h.begin_)) n3
  have s123:=s12.trans s3
  intro x dx' nx nd ne
  obtain ⟨sm,ip⟩:=plan_made (t:=t) (M:=M) (x:=⟨Vbcjaj.fresh h,[]⟩) (o:=l1) (d:=l2) (b:=l3) nx nd ne (th.same s123) (s3 _ _ (s2 _ _ upd_same)) (s3 _ _ upd_same) upd_same (th.not n1) (th.not (s1.free n2)) (th.not (s12.free n3))
  exact ⟨x,dx',l1,l2,l3,0,rfl,upd_same,rfl,k _ _ (s123.trans sm) ip⟩
end
section
variable {P:Program} {w:World} {K:PySem.W.Frag} {mg:Str→Option Value} {base:Heap} {t:Ad}
def spIsWhole (t:Ad):Sp:=fun vs H Q _=>∃ (M M':List Addr) (a p:Addr) (h:Vbcjaj.House) (x:Vbcjaj.Waiting),vs=[.ref a,.ref p]∧IsHouse t M H a h∧IsPlan t M' H p x∧Q (.bl (Vbcjaj.whole_ h x.going)) H
theorem scIsWhole:FnScope ["house","plan"] ["house","plan"] (defScope s_is_whole):=⟨rfl,rfl,rfl,by decide +kernel,rfl,by decide +kernel,by decide +kernel⟩
theorem ok_isWhole (T:Tx K mg t):FnOk P w K mg base CX0 1 t.f_is_whole t.d_is_whole ["house","plan"] (spIsWhole t):=by
 refine T.x_is_whole.F.ok scIsWhole (fun vs H Q E h=>?_) (fun cdv A outer s H vs Q E hr h=>?_)
 ·obtain ⟨M,M',a,p,h,x,rfl,_⟩:=h
  rfl
 ·obtain ⟨M,M',a,p,h,x,rfl,⟨pa,ta,ra,ba,ts,rs,⟨dx,ho⟩,hp,ht,hrs,hb,tr,rr,_⟩,⟨o,d,b,⟨dy,po⟩,p1,p2,p3,_⟩,k⟩:=h
  refine ⟨_,pss_one (ps_ret (pe_cmpR op_eq (pe_callB call_len_seq rfl T.n_len PySem.boot_len (pa_cons (pe_fld (pv 1) rfl) pa_nil)) (pe_callB call_len_seq rfl T.n_len PySem.boot_len (pa_cons (pe_fld (pv 0) rfl) pa_nil)) (nomark _))),?_⟩
  refine ⟨_,rfl,p,_,dy,_,_,rfl,po,T.cl_Plan,T.no_Plan_done,rfl,d,_,rfl,.inl (SqL.of p2),_,rfl,a,_,dx,_,_,rfl,ho,T.cl_House,T.no_House_tricks,rfl,ta,_,rfl,.inl (SqL.of ht),rfl,?_⟩
  have e1:(ts.map V.ref).length=h.tricks.length:=by rw [List.length_map,tr.len,List.length_map]
  rw [e1,List.length_map,dec_int_eq]
  have e2:Vbcjaj.whole_ h x.going=decide (x.going.done.length=h.tricks.length):=by
   unfold Vbcjaj.whole_
   rw [Bool.eq_iff_iff]
   simp
  rw [e2] at k
  exact k
def reason (h:Vbcjaj.House) (x:Vbcjaj.Waiting) (i:Nat):Nat:=match Vbcjaj.goOn h x.going i with
 | .ok _=>0
 | .error e=>e
def spReason (t:Ad):Sp:=fun vs H Q _=>∃ (M M':List Addr) (a p:Addr) (i:Nat) (h:Vbcjaj.House) (x:Vbcjaj.Waiting),vs=[.ref a,.ref p,.int i]∧IsHouse t M H a h∧Wf h∧IsPlan t M' H p x∧Good h x∧∀ H',Same H H'→Q (.int (reason h x i)) H'
theorem in_nv (i:Nat) (l:List Nat):inV (.int i) (nv l)=l.contains i:=by
 unfold inV nv
 rw [List.any_map,Bool.eq_iff_iff]
 simp [eqV]
 constructor
 ·rintro ⟨x,hx,e⟩
  have:x=i:=by omega
  rw [← this];exact hx
 ·intro h
  exact ⟨i,h,rfl⟩
theorem flat_nv (l:List Nat):(nv l).all flatV=true:=by
 unfold nv
 rw [List.all_map]
 exact List.all_eq_true.mpr fun _ _=>rfl
theorem four_le {n:Nat} (h:n≤4):n≤sizeLine:=Nat.le_trans h (by decide)
theorem scReason:FnScope ["house","plan","number","item"] ["house","plan","number"] (defScope s_reason_against):=⟨rfl,rfl,rfl,by decide +kernel,rfl,by decide +kernel,by decide +kernel⟩
theorem ok_reason (T:Tx K mg t):FnOk P w K mg base CX0 3 t.f_reason_against t.d_reason_against ["house","plan","number"] (spReason t):=by
 refine T.x_reason_against.F.ok scReason (fun vs H Q E h=>?_) (fun cdv A outer s H vs Q E hr h=>?_)
 ·obtain ⟨M,M',a,p,i,h,x,rfl,_⟩:=h
  rfl
 ·obtain ⟨M,M',a,p,i,h,x,rfl,hH,W,hP,G,k⟩:=h
  refine ⟨_,pss_cons (ps_set (i:=3) scReason.nd rfl (Or.inl rfl) (pe_call (ok_itemAt T) hr rfl T.x_item_at.m T.x_item_at.F.kp T.x_item_at.b .nil pass0 (pa_cons (pv 0) (pa_cons (pv 2) pa_nil))))
   (pss_cons (ps_if (pt_cmp (pc_isN (pv 3))) (pss_one (ps_ret (pe_const rfl T.k_NO_SUCH_ITEM))) pss_nil)
   (pss_cons (ps_if (pt_cmpR op_in_seq (pv 2) (pe_fld (pv 1) rfl) rfl) (pss_one (ps_ret (pe_const rfl T.k_TRICK_WAS_THERE))) pss_nil)
   (pss_cons (ps_if (pt_not (pt_val (pe_call (ok_isSure T) (hr.mono (by decide)) rfl T.x_is_sure.m T.x_is_sure.F.kp T.x_is_sure.b .nil pass0 (pa_cons (pv 3) (pa_cons (pe_fld (pv 1) rfl) pa_nil))))) (pss_one (ps_ret (pe_const rfl T.k_ITEM_NOT_SURE))) pss_nil)
   (pss_cons (ps_if (pt_cmpR op_gt (pe_op op_add (pe_fld (pv 1) rfl) (pe_fld (pv 3) rfl)) (pe_fld (pv 0) rfl) (nomark _)) (pss_one (ps_ret (pe_const rfl T.k_LIMIT_PASSED))) pss_nil)
   (pss_one (ps_ret (pe_const rfl T.k_RUNS))))))),?_⟩
  refine ⟨_,rfl,_,rfl,M,a,i,h,rfl,hH,fun v hv=>?_⟩
  unfold reason at k
  obtain ⟨pa,ta,ra,ba,ts,rs,⟨dx,ho⟩,_⟩:=id hH
  obtain ⟨o,d,b,⟨dy,po⟩,p1,p2,p3,_⟩:=id hP
  rcases goOn_cases (h:=h) (g:=x.going) (i:=i) with ⟨hi,q⟩ | ⟨it,hi,rest⟩
  ·rw [hi] at hv
   rcases hv with ⟨_,rfl⟩ | ⟨_,_,z,_⟩
   ·refine ⟨_,rfl,_,rfl,?_⟩
    refine iteT ?_
    rw [q] at k
    exact k _ (Same.refl _)
   ·cases z
  ·rw [hi] at hv
   rcases hv with ⟨z,_⟩ | ⟨y,it',z,rfl,hI⟩
   ·cases z
   ·cases z
    have gi:=itemAt_good W hi
    refine ⟨_,rfl,_,rfl,?_⟩
    refine iteF ?_
    refine ⟨_,rfl,_,rfl,p,_,dy,_,_,rfl,po,T.cl_Plan,T.no_Plan_done,rfl,d,_,rfl,.inl (SqL.of p2),rfl,flat_nv _,_,rfl,?_⟩
    show if inV (.int i) (nv x.going.done)=true then _ else _
    rw [in_nv]
    have hc:(i < 8∧x.going.done.contains i=true)↔x.going.done.contains i=true:=⟨fun z=>z.2,fun z=>⟨G.lt8 i (by simpa using z),z⟩⟩
    rcases rest with ⟨h1,q⟩ | ⟨h1,rest⟩
    ·rw [h1.2]
     refine iteT ?_
     rw [q] at k
     exact k _ (Same.refl _)
    ·rw [show x.going.done.contains i=false by
      cases e:x.going.done.contains i with
      | false=>rfl
      | true=>exact absurd (hc.mpr e) h1]
     refine iteF ?_
     have f3:it.need.length=x.going.beliefs.length:=gi.need.trans G.bl.symm
     refine ⟨_,rfl,_,rfl,p,_,dy,_,_,rfl,po,T.cl_Plan,T.no_Plan_beliefs,rfl,M,y,b,it,x.going.beliefs,rfl,hI,SqL.of p3,f3,by rw [G.bl];exact four_le W.pl,G.bf,gi.f1,fun H2 s2=>⟨_,rfl,?_⟩⟩
     rcases rest with ⟨h2,q⟩ | ⟨h2,rest⟩
     ·rw [h2]
      refine iteT ?_
      rw [q] at k
      exact k _ s2
     ·rw [h2]
      refine iteF ?_
      obtain ⟨n,l,r,⟨dz,io⟩,_⟩:=id hI
      refine ⟨_,rfl,p,_,dy,_,_,rfl,s2 _ _ po,T.cl_Plan,T.no_Plan_minutes,rfl,_,rfl,y,_,dz,_,_,rfl,s2 _ _ io,T.cl_Item,T.no_Item_minutes,rfl,_,_,rfl,rfl,_,rfl,a,_,dx,_,_,rfl,s2 _ _ ho,T.cl_House,T.no_House_limit,rfl,_,_,rfl,rfl,_,rfl,?_⟩
      rcases rest with ⟨h3,q⟩ | ⟨h3,q⟩
      ·rw [decide_eq_true (show (x.going.minutes:Int) + (it.minutes:Int) > (h.limit:Int) by omega)]
       refine iteT ?_
       rw [q] at k
       exact k _ s2
      ·rw [decide_eq_false (show ¬ (x.going.minutes:Int) + (it.minutes:Int) > (h.limit:Int) by omega)]
       refine iteF ?_
       rw [q] at k
       exact k _ s2
def spOrderOf (t:Ad):Sp:=fun vs H Q _=>∃ (M:List Addr) (p o d b:Addr) (x:Vbcjaj.Waiting),vs=[.ref p]∧PlanAt t M H p x o d b∧Q (.ref o) H
theorem scOrderOf:FnScope ["plan"] ["plan"] (defScope s_order_of):=⟨rfl,rfl,rfl,by decide +kernel,rfl,by decide +kernel,by decide +kernel⟩
theorem ok_orderOf (T:Tx K mg t):FnOk P w K mg base CX0 1 t.f_order_of t.d_order_of ["plan"] (spOrderOf t):=by
 refine T.x_order_of.F.ok scOrderOf (fun vs H Q E h=>?_) (fun cdv A outer s H vs Q E hr h=>?_)
 ·obtain ⟨M,p,o,d,b,x,rfl,_⟩:=h
  rfl
 ·obtain ⟨M,p,o,d,b,x,rfl,⟨⟨dy,po⟩,p1,p2,p3,_⟩,k⟩:=h
  refine ⟨_,pss_one (ps_ret (pe_fld (pv 0) rfl)),?_⟩
  exact ⟨_,rfl,p,_,dy,_,_,rfl,po,T.cl_Plan,T.no_Plan_order,rfl,k⟩
end
section
variable {P:Program} {w:World} {K:PySem.W.Frag} {mg:Str→Option Value} {base:Heap} {t:Ad}
theorem small_le {n:Nat} (h:n≤1000):n≤sizeLine:=Nat.le_of_lt (small1000 h)
theorem nv_cast (l:List Nat):(l.map fun (x:Nat)=>(x:Int)).map V.int=nv l:=by
 rw [List.map_map]
 rfl
def spLonger (t:Ad):Sp:=fun vs H Q _=>∃ (M M':List Addr) (a p:Addr) (i:Nat) (h:Vbcjaj.House) (x:Vbcjaj.Waiting) (g:Vbcjaj.Going),vs=[.ref a,.ref p,.int i]∧IsHouse t M H a h∧Wf h∧IsPlan t M' H p x∧Good h x∧There M' H∧Vbcjaj.goOn h x.going i=.ok g∧newPlan t M' H ⟨g,x.plan++[i]⟩ Q
theorem scLonger:FnScope ["house","plan","number","item","done","beliefs"] ["house","plan","number"] (defScope s_longer_plan):=⟨rfl,rfl,rfl,by decide +kernel,rfl,by decide +kernel,by decide +kernel⟩
theorem ok_longer (T:Tx K mg t):FnOk P w K mg base CX0 3 t.f_longer_plan t.d_longer_plan ["house","plan","number"] (spLonger t):=by
 refine T.x_longer_plan.F.ok scLonger (fun vs H Q E h=>?_) (fun cdv A outer s H vs Q E hr h=>?_)
 ·obtain ⟨M,M',a,p,i,h,x,g,rfl,_⟩:=h
  rfl
 ·obtain ⟨M,M',a,p,i,h,x,g,rfl,hH,W,hP,G,th,hg,k⟩:=h
  refine ⟨_,pss_cons (ps_set (i:=3) scLonger.nd rfl (Or.inl rfl) (pe_call (ok_itemAt T) hr rfl T.x_item_at.m T.x_item_at.F.kp T.x_item_at.b .nil pass0 (pa_cons (pv 0) (pa_cons (pv 2) pa_nil))))
   (pss_cons (ps_set (i:=4) scLonger.nd rfl (Or.inl rfl) (pe_ifExp (pt_val (pe_call (ok_isTrick T) (hr.mono (by decide)) rfl T.x_is_trick.m T.x_is_trick.F.kp T.x_is_trick.b .nil pass0 (pa_cons (pv 2) pa_nil)))
    (pe_callB cr_sorted rfl T.n_sorted boot_sorted (pa_cons (pe_op op_cat (pe_fld (pv 1) rfl) (pe_lst (pa_cons (pv 2) pa_nil))) pa_nil)) (pe_fld (pv 1) rfl)))
   (pss_cons (ps_set (i:=5) scLonger.nd rfl (Or.inl rfl) (pe_call (ok_behind T) hr rfl T.x_believed_behind.m T.x_believed_behind.F.kp T.x_believed_behind.b .nil pass0 (pa_cons (pv 3) (pa_cons (pe_fld (pv 1) rfl) pa_nil))))
   (pss_one (ps_ret (pe_make T.mk_Plan (ok_planInit T) hr rfl T.mg_Plan T.b_Plan_init .nil pass0 (pa_cons (pe_op op_cat (pe_fld (pv 1) rfl) (pe_lst (pa_cons (pv 2) pa_nil))) (pa_cons (pe_op op_add (pe_fld (pv 1) rfl) (pe_fld (pv 3) rfl)) (pa_cons (pv 4) (pa_cons (pv 5) pa_nil))))))))),?_⟩
  refine ⟨_,rfl,_,rfl,M,a,i,h,rfl,hH,fun v hv=>?_⟩
  obtain ⟨o,d,b,⟨dy,po⟩,p1,p2,p3,m0,m1,m2,m3⟩:=id hP
  rcases goOn_cases (h:=h) (g:=x.going) (i:=i) with ⟨_,q⟩ | ⟨it,hi,⟨_,q⟩ | ⟨hn,⟨_,q⟩ | ⟨_,⟨_,q⟩ | ⟨hl,q⟩⟩⟩⟩
  ·rw [q] at hg;cases hg
  ·rw [q] at hg;cases hg
  ·rw [q] at hg;cases hg
  ·rw [q] at hg;cases hg
  rw [q] at hg
  cases hg
  rw [hi] at hv
  rcases hv with ⟨z,_⟩ | ⟨y,it',z,rfl,hI⟩
  ·cases z
  cases z
  have gi:=itemAt_good W hi
  have len8:=G.short
  have hpl:x.plan.length≤480:=Nat.le_trans G.pl (Nat.le_trans G.lim W.lim)
  have tail:∀ (H1:Hp) (D:Addr),Same H H1→D∉M'→H1 D=some (.lst (nv (if i < 8 then Vbcjaj.putNat i x.going.done else x.going.done))) →
    tSeq (tAsg (tCall (spBehind t K) [] E0 (tCons (tVar 3) (tCons (tFld K (tVar 1) "beliefs") tNil))) (gName 5))
     (tRet (tMake t.c_Plan (spPlanInit t) [] E0 (tCons (tOp rCat (tFld K (tVar 1) "order") (tLst (tCons (tVar 2) tNil))) (tCons (tOp (rI0 fun i j=>.int (i + j)) (tFld K (tVar 1) "minutes") (tFld K (tVar 3) "minutes")) (tCons (tVar 4) (tCons (tVar 5) tNil))))))
     { nx:=fun _ H'=>Q .non H',rt:=Q } [some (.ref a),some (.ref p),some (.int i),some (.ref y),some (.ref D),none] H1:=by
   intro H1 D s1 mD hD
   have hI1:=hI.same s1
   refine ⟨_,rfl,_,rfl,p,_,dy,_,_,rfl,s1 _ _ po,T.cl_Plan,T.no_Plan_beliefs,rfl,M,y,b,it,x.going.beliefs,rfl,hI1,SqL.of (s1 _ _ p3),by rw [G.bl];exact four_le W.pl,gi.leave.trans G.bl.symm,fun z=>(gi.rescue z).trans G.bl.symm,G.bf,gi.f2,gi.f3,fun H2 B s2 nB hB=>?_⟩
   have s12:=s1.trans s2
   obtain ⟨n,l,r,⟨dz,io⟩,_⟩:=id hI
   refine ⟨_,rfl,p,_,dy,_,_,rfl,s12 _ _ po,T.cl_Plan,T.no_Plan_order,rfl,_,rfl,(by show 1≤sizeLine;decide),fun L nL=>?_⟩
   have s3:=Same.new (o:=HO.lst [V.int (i:Int)]) nL
   have s123:=s12.trans s3
   refine ⟨o,L,_,_,rfl,rfl,s123 _ _ p1,upd_same,?_,fun O nO=>?_⟩
   ·rw [List.length_map]
    exact small_le (by show x.plan.length + 1≤1000;omega)
   have s4:=Same.new (o:=HO.lst (nv x.plan++[V.int (i:Int)])) nO
   have s1234:=s123.trans s4
   refine ⟨_,rfl,p,_,dy,_,_,rfl,s1234 _ _ po,T.cl_Plan,T.no_Plan_minutes,rfl,_,rfl,y,_,dz,_,_,rfl,s1234 _ _ io,T.cl_Item,T.no_Item_minutes,rfl,_,_,rfl,rfl,_,rfl,_,rfl,?_⟩
   intro X' DX nX nDX ne
   have hord:(upd (upd H2 L (.lst [V.int (i:Int)])) O (.lst (nv x.plan++[V.int (i:Int)]))) O=some (.lst (nv (x.plan++[i]))):=by
    rw [upd_same]
    unfold nv
    rw [List.map_append]
    rfl
   obtain ⟨sm,ip⟩:=plan_made (t:=t) (M:=M') (x:=⟨⟨if i < 8 then Vbcjaj.putNat i x.going.done else x.going.done,Vbcjaj.behind x.going.beliefs it,x.going.minutes + it.minutes⟩,x.plan++[i]⟩) (o:=O) (d:=D) (b:=B) nX nDX ne (th.same s1234) hord (s4 _ _ (s3 _ _ (s2 _ _ hD))) (s4 _ _ (s3 _ _ hB)) (th.not (s123.free nO)) mD (th.not (s1.free nB))
   refine ⟨X',DX,O,D,B,x.going.minutes + it.minutes,rfl,upd_same,rfl,k _ _ (s1234.trans sm) ip⟩
  refine ⟨_,rfl,i,rfl,_,rfl,ifB (fun z=>?_) (fun z=>?_)⟩
  ·have h8:i < 8:=of_decide_eq_true z
   have hni:i∉x.going.done:=fun z=>hn ⟨h8,by simpa using z⟩
   refine ⟨_,rfl,p,_,dy,_,_,rfl,po,T.cl_Plan,T.no_Plan_done,rfl,_,rfl,(by show 1≤sizeLine;decide),fun L nL=>?_⟩
   have s3:=Same.new (o:=HO.lst [V.int (i:Int)]) nL
   refine ⟨d,L,_,_,rfl,rfl,s3 _ _ p2,upd_same,?_,fun O nO=>?_⟩
   ·rw [List.length_map]
    exact small_le (by show x.going.done.length + 1≤1000;omega)
   have s4:=Same.new (o:=HO.lst (nv x.going.done++[V.int (i:Int)])) nO
   have s34:=s3.trans s4
   refine ⟨O,(x.going.done++[i]).map fun (x:Nat)=>(x:Int),rfl,SqL.of ?_,?_,fun ns' p' hp hs np=>?_⟩
   ·rw [upd_same,nv_cast]
    unfold nv
    rw [List.map_append]
    rfl
   ·rw [List.length_map,List.length_append]
    show x.going.done.length + 1 < 64
    omega
   ·have e:=CsM.sorted_put G.srt hni hp hs
    refine tail _ p' (s34.trans (Same.new np)) (th.not (s34.free np)) ?_
    rw [upd_same,e,nv_cast,if_pos h8]
  ·have h8:¬ i < 8:=of_decide_eq_false z
   refine ⟨_,rfl,p,_,dy,_,_,rfl,po,T.cl_Plan,T.no_Plan_done,rfl,?_⟩
   exact tail H d (Same.refl _) m2 (by rw [if_neg h8];exact p2)
end
def moreW (h:Vbcjaj.House) (x:Vbcjaj.Waiting) (i:Nat):Vbcjaj.Waiting:=match Vbcjaj.goOn h x.going i with
 | .ok g=>⟨g,x.plan++[i]⟩
 | .error _=>x
theorem reason_zero {h:Vbcjaj.House} {x:Vbcjaj.Waiting} {i:Nat}:reason h x i=0↔∃ g,Vbcjaj.goOn h x.going i=.ok g:=by
 unfold reason
 rcases goOn_cases (h:=h) (g:=x.going) (i:=i) with ⟨_,q⟩ | ⟨it,hi,⟨_,q⟩ | ⟨hn,⟨_,q⟩ | ⟨_,⟨_,q⟩ | ⟨hl,q⟩⟩⟩⟩ <;> rw [q] <;> simp
theorem more1_eq (h:Vbcjaj.House) (x:Vbcjaj.Waiting) (i:Nat):CsM.more1 h x i=if reason h x i=0 then some (moreW h x i) else none:=by
 by_cases e:reason h x i=0
 ·rw [if_pos e]
  obtain ⟨g,q⟩:=reason_zero.mp e
  unfold CsM.more1 moreW
  rw [q]
 ·rw [if_neg e]
  unfold CsM.more1
  cases q:Vbcjaj.goOn h x.going i with
  | ok g=>exact absurd (reason_zero.mpr ⟨g,q⟩) e
  | error z=>rfl
def goers (h:Vbcjaj.House) (x:Vbcjaj.Waiting) (n:Nat):List Nat:=(List.range n).filter fun i=>decide (reason h x i=0)
theorem filterMap_if {α β:Type} (p:α→Prop) [DecidablePred p] (f:α→β) (g:α→Option β) (hg:∀ a,g a=if p a then some (f a) else none):∀ l:List α,l.filterMap g=(l.filter fun a=>decide (p a)).map f
 | []=>rfl
 | a::l=>by
  rw [List.filterMap_cons,hg a,List.filter_cons]
  by_cases e:p a
  ·rw [if_pos e,if_pos (by simpa using e),List.map_cons,filterMap_if p f g hg l]
  ·rw [if_neg e,if_neg (by simpa using e),filterMap_if p f g hg l]
theorem further_goers {h:Vbcjaj.House} (W:Wf h) (x:Vbcjaj.Waiting):Vbcjaj.further h x=(goers h x 14).map (moreW h x):=by
 rw [CsM.further_all W.tl W.rl]
 exact filterMap_if (fun i=>reason h x i=0) (moreW h x) _ (more1_eq h x) _
theorem goers_len (h:Vbcjaj.House) (x:Vbcjaj.Waiting) (n:Nat):(goers h x n).length≤n:=by
 unfold goers
 exact Nat.le_trans (List.length_filter_le _ _) (by rw [List.length_range];exact Nat.le_refl _)
theorem goers_succ (h:Vbcjaj.House) (x:Vbcjaj.Waiting) (n:Nat):goers h x (n + 1)=goers h x n++(if reason h x n=0 then [n] else []):=by
 unfold goers
 rw [List.range_succ,List.filter_append,List.filter_cons]
 by_cases e:reason h x n=0
 ·rw [if_pos (by simpa using e),if_pos e];rfl
 ·rw [if_neg (by simpa using e),if_neg e];rfl
section
variable {P:Program} {w:World} {K:PySem.W.Frag} {mg:Str→Option Value} {base:Heap} {t:Ad}
structure Plans (t:Ad) (M:List Addr) (H:Hp) (as:List Addr) (xs:List Vbcjaj.Waiting):Prop where
 len:as.length=xs.length
 at_:∀ (i:Nat) (a:Addr) (x:Vbcjaj.Waiting),as[i]?=some a→xs[i]?=some x→IsPlan t M H a x
theorem Plans.mono {M:List Addr} {H H':Hp} {as:List Addr} {xs:List Vbcjaj.Waiting} (h:Plans t M H as xs) (e:∀ b o,H b=some o→b∉M→H' b=some o):Plans t M H' as xs:=⟨h.len,fun i a x h1 h2=>(h.at_ i a x h1 h2).mono e⟩
theorem Plans.same {M:List Addr} {H H':Hp} {as:List Addr} {xs:List Vbcjaj.Waiting} (h:Plans t M H as xs) (e:Same H H'):Plans t M H' as xs:=h.mono fun b o q _=>e b o q
theorem Plans.nil {M:List Addr} {H:Hp}:Plans t M H [] []:=⟨rfl,fun i a x h=>by simp at h⟩
theorem Plans.snoc {M:List Addr} {H:Hp} {as:List Addr} {xs:List Vbcjaj.Waiting} {a:Addr} {x:Vbcjaj.Waiting} (h:Plans t M H as xs) (p:IsPlan t M H a x):Plans t M H (as++[a]) (xs++[x]):=by
 refine ⟨by rw [List.length_append,List.length_append,h.len];rfl,fun i b y h1 h2=>?_⟩
 by_cases hi:i < as.length
 ·rw [List.getElem?_append_left hi] at h1
  rw [List.getElem?_append_left (by rw [← h.len];exact hi)] at h2
  exact h.at_ i b y h1 h2
 ·rw [List.getElem?_append_right (by omega)] at h1
  rw [List.getElem?_append_right (by rw [← h.len];omega),← h.len] at h2
  cases hj:i - as.length with
  | zero =>
   rw [hj] at h1 h2
   cases h1
   cases h2
   exact p
  | succ n =>
   rw [hj] at h1
   simp at h1
theorem IsPlan.less {M N:List Addr} {H:Hp} {a:Addr} {x:Vbcjaj.Waiting} (h:IsPlan t M H a x) (e:∀ m∈N,m∈M):IsPlan t N H a x:=by
 obtain ⟨o,d,b,h0,h1,h2,h3,m0,m1,m2,m3⟩:=h
 exact ⟨o,d,b,h0,h1,h2,h3,fun z=>m0 (e _ z),fun z=>m1 (e _ z),fun z=>m2 (e _ z),fun z=>m3 (e _ z)⟩
theorem IsPlan.more {M:List Addr} {H:Hp} {a L:Addr} {x:Vbcjaj.Waiting} (h:IsPlan t M H a x) (hL:H L=none):IsPlan t (L::M) H a x:=by
 obtain ⟨o,d,b,⟨dx,h0⟩,h1,h2,h3,m0,m1,m2,m3⟩:=h
 have ne:∀ {c:Addr} {u:HO},H c=some u→c∉M→c∉L::M:=fun e m z=>by
  rcases List.mem_cons.mp z with z | z
  ·exact ne_of_none e hL z
  ·exact m z
 exact ⟨o,d,b,⟨dx,h0⟩,h1,h2,h3,ne h0 m0,ne h1 m1,ne h2 m2,ne h3 m3⟩
theorem Plans.less {M N:List Addr} {H:Hp} {as:List Addr} {xs:List Vbcjaj.Waiting} (h:Plans t M H as xs) (e:∀ m∈N,m∈M):Plans t N H as xs:=⟨h.len,fun i a x h1 h2=>(h.at_ i a x h1 h2).less e⟩
theorem There.more {M:List Addr} {H:Hp} {L:Addr} {o:HO} (h:There M H) (e:H L=some o):There (L::M) H:=fun m hm=>by
 rcases List.mem_cons.mp hm with rfl | hm
 ·exact ⟨o,e⟩
 ·exact h m hm
theorem Plans.upd {M:List Addr} {H:Hp} {as:List Addr} {xs:List Vbcjaj.Waiting} (h:Plans t M H as xs) {m:Addr} {o:HO} (hm:m∈M):Plans t M (upd H m o) as xs:=h.mono fun b u e hb=>by rw [upd_ne (fun z=>hb (by rw [z];exact hm))];exact e
def newPlans (t:Ad) (M:List Addr) (H:Hp) (xs:List Vbcjaj.Waiting) (Q:VK):Prop:=∀ H' L as,Same H H'→H L=none→H' L=some (.lst (as.map V.ref))→Plans t M H' as xs→Q (.ref L) H'
def spLongers (t:Ad):Sp:=fun vs H Q _=>∃ (M M':List Addr) (a p:Addr) (h:Vbcjaj.House) (x:Vbcjaj.Waiting),vs=[.ref a,.ref p]∧IsHouse t M H a h∧Wf h∧IsPlan t M' H p x∧Good h x∧There M' H∧newPlans t M' H (Vbcjaj.further h x) Q
theorem scLongers:FnScope ["house","plan","numbers","number"] ["house","plan"] (defScope s_longer_plans):=⟨rfl,rfl,rfl,by decide +kernel,rfl,by decide +kernel,by decide +kernel⟩
theorem ok_longers (T:Tx K mg t):FnOk P w K mg base CX0 4 t.f_longer_plans t.d_longer_plans ["house","plan"] (spLongers t):=by
 refine T.x_longer_plans.F.ok scLongers (fun vs H Q E h=>?_) (fun cdv A outer s H vs Q E hr h=>?_)
 ·obtain ⟨M,M',a,p,h,x,rfl,_⟩:=h
  rfl
 ·obtain ⟨M,M',a,p,h,x,rfl,hH,W,hP,G,th,k⟩:=h
  refine ⟨_,pss_cons (ps_setLc (i:=2) (own:=[("number",3)]) rfl scLongers.nd rfl rfl (sw_true rfl rfl (by rfl) (by rfl)) (pi_range1 rfl T.n_range (pa_cons (pe_op op_add (pe_const rfl T.k_LAST_ITEM) pe_int) pa_nil)) (blkOk_by (show blkC ["house","plan","numbers","number"] (defScope s_longer_plans) _ _=true by decide +kernel))
    (fun _ _ _ _ _=>pg_name (i:=3) scLongers.nd rfl (Or.inl rfl)) (fun _ _ _ _ _=>pts_one (pt_cmpR op_eq (pe_call (ok_reason T) hr rfl T.x_reason_against.m T.x_reason_against.F.kp T.x_reason_against.b .nil pass0 (pa_cons (pv 0) (pa_cons (pv 1) (pa_cons (pv 3) pa_nil)))) (pe_const rfl T.k_RUNS) (nomark _)))
    (fun _ _ _ _ _=>pv 3))
   (pss_one (ps_ret (pe_lc (own:=[("number",3)]) rfl scLongers.nd (pi_list (pv 2)) (blkOk_by (show blkC ["house","plan","numbers","number"] (defScope s_longer_plans) _ _=true by decide +kernel)) (fun _ _ _ _ _=>pg_name (i:=3) scLongers.nd rfl (Or.inl rfl)) (fun _ _ _ _ _=>pts_nil)
    (fun _ _ _ _ _=>pe_call (ok_longer T) hr rfl T.x_longer_plan.m T.x_longer_plan.F.kp T.x_longer_plan.b .nil pass0 (pa_cons (pv 0) (pa_cons (pv 1) (pa_cons (pv 3) pa_nil))))))),?_⟩
  refine ⟨_,_,rfl,rfl,14,rfl,by decide,by decide,fun D hD=>?_⟩
  refine lc_range (n:=14) (fun i H'=>Same H H'∧H' D=some (.lst (nv (goers h x i)))) ⟨Same.new hD,upd_same⟩ (fun i H' hi p=>?_) (fun H1 p=>?_)
  ·obtain ⟨sm,hH'⟩:=p
   refine ⟨rfl,?_⟩
   refine ⟨_,rfl,_,rfl,_,rfl,M,M',a,p,i,h,x,by simp,hH.same sm,W,hP.same sm,G,fun H2 s2=>?_⟩
   refine ⟨rfl,_,rfl,?_⟩
   show if decide (V.int (reason h x i:Int)=V.int ((0:Nat):Int))=true then _ else _
   rw [dec_int_eq]
   refine ifB (fun z=>?_) (fun z=>?_)
   ·have z':reason h x i=0:=of_decide_eq_true z
    refine ⟨_,rfl,_,s2 _ _ hH',?_,Same.over hD (sm.trans s2),?_⟩
    ·rw [List.length_map]
     have:=goers_len h x i
     exact small1000 (by omega)
    ·rw [upd_same,goers_succ,if_pos z']
     unfold nv
     rw [List.map_append,Int.zero_add]
     rfl
   ·have z':¬ reason h x i=0:=of_decide_eq_false z
    refine ⟨sm.trans s2,?_⟩
    rw [goers_succ,if_neg z',List.append_nil]
    exact s2 _ _ hH'
  ·obtain ⟨s1,hN⟩:=p
   have hfu:=further_goers W x
   refine ⟨_,rfl,D,rfl,⟨_,SqL.of hN⟩,fun L hL=>?_⟩
   have nL:H L=none:=s1.free hL
   refine lc_list (K:=K) (a:=D) (xs:=nv (goers h x 14)) (fun i H'=>Same H1 H'∧∃ as,H' L=some (.lst (as.map V.ref))∧Plans t (L::M') H' as ((Vbcjaj.further h x).take i)) ⟨Same.new hL,[],upd_same,Plans.nil⟩ (fun i H' _ p=>SqL.of (p.1 _ _ hN)) (fun i y H' hy p=>?_) (fun H' p=>?_)
   ·obtain ⟨s2,as,hA,pl⟩:=p
    obtain ⟨n,hn,rfl⟩:=get_map hy
    have s12:=s1.trans s2
    have hr0:reason h x n=0:=by
     have:=List.mem_of_getElem? hn
     unfold goers at this
     simpa using (List.mem_filter.mp this).2
    obtain ⟨g,hg⟩:=reason_zero.mp hr0
    refine ⟨rfl,?_⟩
    refine ⟨_,rfl,_,rfl,_,rfl,M,L::M',a,p,n,h,x,g,rfl,hH.same s12,W,(hP.more nL).same s12,G,(th.same s12).more hA,hg,fun H3 b s3 ip=>?_⟩
    have hfi:(Vbcjaj.further h x)[i]?=some ⟨g,x.plan++[n]⟩:=by
     rw [hfu,List.getElem?_map,hn]
     show some (moreW h x n)=_
     unfold moreW
     rw [hg]
    have hal:as.length≤14:=by
     rw [pl.len,List.length_take,hfu,List.length_map]
     have:=goers_len h x 14
     omega
    have hLM:L∉M':=th.not nL
    refine ⟨_,s3 _ _ hA,by rw [List.length_map];exact small1000 (by omega),Same.over hL (s2.trans s3),as++[b],?_,?_⟩
    ·rw [upd_same,List.map_append]
     rfl
    ·have e1:(Vbcjaj.further h x).take (i + 1)=(Vbcjaj.further h x).take i++[⟨g,x.plan++[n]⟩]:=by rw [List.take_add_one,hfi];rfl
     rw [e1]
     exact ((pl.same s3).snoc ip).upd List.mem_cons_self
   ·obtain ⟨s2,as,hA,pl⟩:=p
    have e1:(Vbcjaj.further h x).take (nv (goers h x 14)).length=Vbcjaj.further h x:=by
     rw [List.length_map]
     exact List.take_of_length_le (by rw [hfu,List.length_map];exact Nat.le_refl _)
    rw [e1] at pl
    exact k _ L as (s1.trans s2) nL hA (pl.less fun m hm=>List.mem_cons_of_mem _ hm)
end
def encL (l:List Nat):List Key:=l.map fun (n:Nat)=>(Sum.inl (n:Int):Key)
def enc (k:List Nat × List Nat):Pk:=(encL k.1,encL k.2)
theorem encL_inj:∀ {l m:List Nat},encL l=encL m→l=m
 | [],[],_=>rfl
 | [],_::_,h=>by simp [encL] at h
 | _::_,[],h=>by simp [encL] at h
 | a::l,b::m,h=>by
  have h':(Sum.inl (a:Int):Key)::encL l=(Sum.inl (b:Int):Key)::encL m:=h
  injection h' with h1 h2
  injection h1 with h1
  have e:a=b:=by omega
  rw [e,encL_inj h2]
theorem enc_inj {k j:List Nat × List Nat} (h:enc k=enc j):k=j:=by
 unfold enc at h
 injection h with h1 h2
 exact Prod.ext (encL_inj h1) (encL_inj h2)
theorem encL_kV (l:List Nat):(encL l).map kV=nv l:=by
 unfold encL nv
 rw [List.map_map]
 rfl
theorem any_enc {xs:Pks} {keys:List (List Nat × List Nat)} (h:xs.map (·.1)=keys.map enc) (k:List Nat × List Nat):(xs.any fun x=>decide (x.1=enc k))=keys.contains k:=by
 have e1:(xs.any fun x=>decide (x.1=enc k))=(xs.map (·.1)).any fun x=>decide (x=enc k):=by rw [List.any_map];rfl
 rw [e1,h,List.any_map,Bool.eq_iff_iff]
 simp only [List.any_eq_true,Function.comp,decide_eq_true_eq,List.contains_iff_mem]
 constructor
 ·rintro ⟨x,hx,e⟩
  rw [← enc_inj e]
  exact hx
 ·intro hk
  exact ⟨k,hk,rfl⟩
section
variable {P:Program} {w:World} {K:PySem.W.Frag} {mg:Str→Option Value} {base:Heap} {t:Ad}
structure Bk (t:Ad) (M:List Addr) (H:Hp) (W:Addr) (wl:List Addr) (bs:CsM.Bs):Prop where
 lst:H W=some (.lst (wl.map V.ref))
 wM:W∉M
 nd:wl.Nodup
 mem:∀ l∈wl,l∈M
 at_:∀ (k:Nat) (l:Addr),wl[k]?=some l→∃ as,H l=some (.lst (as.map V.ref))∧Plans t M H as (bs k)
theorem Bk.same {M:List Addr} {H H':Hp} {W:Addr} {wl:List Addr} {bs:CsM.Bs} (b:Bk t M H W wl bs) (e:Same H H'):Bk t M H' W wl bs :=
 ⟨e _ _ b.lst,b.wM,b.nd,b.mem,fun k l hl=>let ⟨as,h1,h2⟩:=b.at_ k l hl;⟨as,e _ _ h1,h2.same e⟩⟩
theorem Bk.other {M:List Addr} {H:Hp} {W d:Addr} {o:HO} {wl:List Addr} {bs:CsM.Bs} (b:Bk t M H W wl bs) (hd:d∈M) (hn:d∉wl):Bk t M (upd H d o) W wl bs:=by
 refine ⟨?_,b.wM,b.nd,b.mem,fun k l hl=>?_⟩
 ·rw [upd_ne (fun z=>b.wM (by rw [z];exact hd))]
  exact b.lst
 ·obtain ⟨as,h1,h2⟩:=b.at_ k l hl
  refine ⟨as,?_,h2.upd hd⟩
  rw [upd_ne (fun z=>hn (by rw [← z];exact List.mem_of_getElem? hl))]
  exact h1
theorem Bk.push {M:List Addr} {H:Hp} {W l a:Addr} {wl as:List Addr} {bs:CsM.Bs} {x:Vbcjaj.Waiting} (b:Bk t M H W wl bs) (hl:wl[x.going.minutes]?=some l) (ha:H l=some (.lst (as.map V.ref))) (hp:Plans t M H as (bs x.going.minutes)) (ip:IsPlan t M H a x) :
  Bk t M (upd H l (.lst (as.map V.ref++[.ref a]))) W wl (CsM.push bs x):=by
 have lM:l∈M:=b.mem l (List.mem_of_getElem? hl)
 refine ⟨?_,b.wM,b.nd,b.mem,fun k c hc=>?_⟩
 ·rw [upd_ne (fun z=>b.wM (by rw [z];exact lM))]
  exact b.lst
 ·by_cases hk:k=x.going.minutes
  ·subst hk
   rw [hl] at hc
   cases hc
   refine ⟨as++[a],by rw [upd_same,List.map_append];rfl,?_⟩
   have e:CsM.push bs x x.going.minutes=bs x.going.minutes++[x]:=by unfold CsM.push;rw [if_pos rfl]
   rw [e]
   exact (hp.snoc ip).upd lM
  ·obtain ⟨as',h1,h2⟩:=b.at_ k c hc
   have e:CsM.push bs x k=bs k:=by unfold CsM.push;rw [if_neg hk]
   rw [e]
   refine ⟨as',?_,h2.upd lM⟩
   rw [upd_ne (fun z=>hk (nd_ix b.nd hc (by rw [z];exact hl)))]
   exact h1
theorem push_len (bs:CsM.Bs) (x:Vbcjaj.Waiting) (k:Nat):(CsM.push bs x k).length≤(bs k).length + 1:=by
 unfold CsM.push
 split
 ·rw [List.length_append]
  exact Nat.le_refl _
 ·omega
theorem DN.lst {H:Hp} {d l:Addr} {xs:Pks} {as as':List V} (D:DN P w H d xs) (hl:H l=some (.lst as)):DN P w (upd H l (.lst as')) d xs:=by
 refine ⟨?_,fun x hx=>(D.keys x hx).mono fun b ys e=>?_⟩
 ·rw [upd_ne (ne_of D.at_ hl (fun z=>nomatch z))]
  exact D.at_
 ·rw [upd_ne (ne_of e hl (fun z=>nomatch z))]
  exact e
theorem DN.same {H H':Hp} {d:Addr} {xs:Pks} (D:DN P w H d xs) (e:Same H H'):DN P w H' d xs:=⟨e _ _ D.at_,fun x hx=>(D.keys x hx).mono fun b ys q=>e b _ q⟩
def FoundAt (t:Ad) (H:Hp) (c:Int) (v:V):Vbcjaj.Found→Prop
 | .plan x=>c=1∧x.plan.length≤480∧∃ p,v=.ref p∧IsPlan t [] H p x
 | .none=>c=0∧v=.non
 | .spent=>c=2∧v=.non
def spFind (t:Ad):Sp:=fun vs H Q _=>∃ (M:List Addr) (a:Addr) (n:Nat) (h:Vbcjaj.House),vs=[.ref a,.int n]∧IsHouse t M H a h∧Wf h∧n≤200∧∀ H' U c v,Same H H'→H' U=some (.tup [.int c,v])→FoundAt t H' c v (Vbcjaj.plan h n)→Q (.ref U) H'
abbrev nmFind:List Str:=["house","steps","waiting","gone_on_with","minute","taken","plan","standing","longer"]
theorem scFind:FnScope nmFind ["house","steps"] (defScope s_find_plan):=⟨rfl,rfl,rfl,by decide +kernel,rfl,by decide +kernel,by decide +kernel⟩
structure FI (P:Program) (w:World) (t:Ad) (H:Hp) (n:Nat) (H':Hp) (d W:Addr) (wl:List Addr) (bs:CsM.Bs) (keys:CsM.Keys) (xs:Pks):Prop where
 sm:Same H H'
 bk:Bk t (d::wl) H' W wl bs
 dn:DN P w H' d xs
 ks:xs.map (·.1)=keys.map enc
 kl:keys.length≤n
 new:∀ m∈d::wl,H m=none
theorem FI.there {H:Hp} {n:Nat} {H':Hp} {d W:Addr} {wl:List Addr} {bs:CsM.Bs} {keys:CsM.Keys} {xs:Pks} (F:FI P w t H n H' d W wl bs keys xs):There (d::wl) H':=fun m hm=>by
 rcases List.mem_cons.mp hm with rfl | hm
 ·exact ⟨_,F.dn.at_⟩
 ·obtain ⟨k,hk,e⟩:=List.getElem_of_mem hm
  obtain ⟨as,h1,_⟩:=F.bk.at_ k m (by rw [List.getElem?_eq_getElem hk,e])
  exact ⟨_,h1⟩
theorem FI.dnot {H:Hp} {n:Nat} {H':Hp} {d W:Addr} {wl:List Addr} {bs:CsM.Bs} {keys:CsM.Keys} {xs:Pks} (F:FI P w t H n H' d W wl bs keys xs):d∉wl:=fun z=>by
 obtain ⟨k,hk,e⟩:=List.getElem_of_mem z
 obtain ⟨as,h1,_⟩:=F.bk.at_ k d (by rw [List.getElem?_eq_getElem hk,e])
 have:=F.dn.at_
 rw [h1] at this
 cases this
theorem FI.same {H:Hp} {n:Nat} {H' H2:Hp} {d W:Addr} {wl:List Addr} {bs:CsM.Bs} {keys:CsM.Keys} {xs:Pks} (F:FI P w t H n H' d W wl bs keys xs) (e:Same H' H2):FI P w t H n H2 d W wl bs keys xs:=⟨F.sm.trans e,F.bk.same e,DN.same F.dn e,F.ks,F.kl,F.new⟩
theorem FI.put {H:Hp} {n:Nat} {H':Hp} {d W U:Addr} {wl:List Addr} {bs:CsM.Bs} {keys:CsM.Keys} {xs:Pks} {k:List Nat × List Nat} (F:FI P w t H n H' d W wl bs keys xs) (p:PairAt H' (enc k) U) (hk:keys.length < n) :
  FI P w t H n (upd H' d (dN P w d (xs++[(enc k,U)]))) d W wl bs (keys++[k]) (xs++[(enc k,U)]) :=
 ⟨Same.over (F.new d List.mem_cons_self) F.sm,F.bk.other List.mem_cons_self F.dnot,DN.put F.dn p,by rw [List.map_append,List.map_append,F.ks];rfl,by rw [List.length_append];exact hk,F.new⟩
theorem FI.push {H:Hp} {n:Nat} {H':Hp} {d W l a:Addr} {wl as:List Addr} {bs:CsM.Bs} {keys:CsM.Keys} {xs:Pks} {x:Vbcjaj.Waiting} (F:FI P w t H n H' d W wl bs keys xs) (hl:wl[x.going.minutes]?=some l) (ha:H' l=some (.lst (as.map V.ref))) (hp:Plans t (d::wl) H' as (bs x.going.minutes)) (ip:IsPlan t (d::wl) H' a x) :
  FI P w t H n (upd H' l (.lst (as.map V.ref++[.ref a]))) d W wl (CsM.push bs x) keys xs :=
 ⟨Same.over (F.new l (List.mem_cons_of_mem _ (List.mem_of_getElem? hl))) F.sm,F.bk.push hl ha hp ip,DN.lst F.dn ha,F.ks,F.kl,F.new⟩
end
theorem lexI_cast:∀ a b:List Nat,CsS.lexI (a.map fun (x:Nat)=>(x:Int)) (b.map fun (x:Nat)=>(x:Int))=Vbcjaj.lessPlan a b
 | _,[]=>by
  cases ‹List Nat› <;> rfl
 | [],_::_=>rfl
 | x::a,y::b=>by
  show (decide ((x:Int) < (y:Int)) || (decide ((x:Int)=(y:Int)) && CsS.lexI (a.map fun (x:Nat)=>(x:Int)) (b.map fun (x:Nat)=>(x:Int))))=(decide (x < y) || (x == y && Vbcjaj.lessPlan a b))
  rw [lexI_cast a b]
  have e1:decide ((x:Int) < (y:Int))=decide (x < y):=dec_lt x y
  have e2:decide ((x:Int)=(y:Int))=(x == y):=by
   by_cases e:x=y
   ·rw [e];simp
   ·rw [decide_eq_false (by omega)]
    simp [e]
  rw [e1,e2]
section
variable {P:Program} {w:World} {K:PySem.W.Frag} {mg:Str→Option Value} {base:Heap} {t:Ad}
abbrev Tr:=Addr × Addr × Vbcjaj.Waiting
def TrAt (t:Ad) (M:List Addr) (H:Hp) (p:Tr):Prop:=∃ d b,PlanAt t M H p.1 p.2.2 p.2.1 d b
theorem Plans.triples {M:List Addr} {H:Hp}:∀ {as:List Addr} {ws:List Vbcjaj.Waiting},Plans t M H as ws→∃ ps:List Tr,ps.map (·.1)=as∧ps.map (·.2.2)=ws∧∀ p∈ps,TrAt t M H p
 | [],[],_=>⟨[],rfl,rfl,fun _ z=>nomatch z⟩
 | [],_::_,h=>absurd h.len (by simp)
 | _::_,[],h=>absurd h.len (by simp)
 | a::as,x::ws,h=>by
  obtain ⟨o,d,b,q⟩:=h.at_ 0 a x rfl rfl
  obtain ⟨ps,e1,e2,e3⟩:=Plans.triples (as:=as) (ws:=ws) ⟨by simpa using h.len,fun i c y h1 h2=>h.at_ (i + 1) c y (by simpa using h1) (by simpa using h2)⟩
  refine ⟨(a,o,x)::ps,by rw [List.map_cons,e1],by rw [List.map_cons,e2],fun p hp=>?_⟩
  rcases List.mem_cons.mp hp with rfl | hp
  ·exact ⟨d,b,q⟩
  ·exact e3 p hp
theorem Plans.of {M:List Addr} {H:Hp} {ps:List Tr} (h:∀ p∈ps,TrAt t M H p):Plans t M H (ps.map (·.1)) (ps.map (·.2.2)):=by
 refine ⟨by rw [List.length_map,List.length_map],fun i a x h1 h2=>?_⟩
 obtain ⟨p,hp,rfl⟩:=get_map h1
 obtain ⟨q,hq,rfl⟩:=get_map h2
 rw [hp] at hq
 cases hq
 obtain ⟨d,b,z⟩:=h p (List.mem_of_getElem? hp)
 exact ⟨_,d,b,z⟩
def Kp (M:List Addr) (H H':Hp):Prop:=∀ b o,H b=some o→b∉M→H' b=some o
theorem Kp.refl (M:List Addr) (H:Hp):Kp M H H:=fun _ _ e _=>e
theorem Kp.trans {M:List Addr} {H H1 H2:Hp} (a:Kp M H H1) (b:Kp M H1 H2):Kp M H H2:=fun c o e m=>b c o (a c o e m) m
theorem Kp.same {M:List Addr} {H H':Hp} (e:Same H H'):Kp M H H':=fun c o q _=>e c o q
theorem Kp.upd {M:List Addr} {H:Hp} {m:Addr} {o:HO} (hm:m∈M):Kp M H (upd H m o):=fun c u e hc=>by rw [upd_ne (fun z=>hc (by rw [z];exact hm))];exact e
theorem pushAll_snoc (bs:CsM.Bs) (l:List Vbcjaj.Waiting) (x:Vbcjaj.Waiting):CsM.pushAll bs (l++[x])=CsM.push (CsM.pushAll bs l) x:=by
 unfold CsM.pushAll
 rw [List.foldl_append]
 rfl
theorem goAll_good {h:Vbcjaj.House} (W:Wf h):∀ (l pre:List Nat) (k:Nat) (g g':Vbcjaj.Going),Good h ⟨g,pre⟩→Vbcjaj.goAll h k g l=.ok g'→Good h ⟨g',pre++l⟩
 | [],pre,k,g,g',G,e=>by
  cases e
  rw [List.append_nil]
  exact G
 | i::l,pre,k,g,g',G,e=>by
  unfold Vbcjaj.goAll at e
  cases hg:Vbcjaj.goOn h g i with
  | error z=>rw [hg] at e;cases e
  | ok y =>
   rw [hg] at e
   have:=goAll_good W l (pre++[i]) (k + 1) y g' (Good.next W G hg) e
   rw [List.append_assoc] at this
   exact this
theorem det_good {h:Vbcjaj.House} (W:Wf h) {x:Vbcjaj.Waiting} (d:CsM.Det h x):Good h x:=by
 obtain ⟨k,e⟩:=d
 exact goAll_good W x.plan [] k _ _ (Good.fresh W) e
theorem ok_find (T:Tx K mg t):FnOk P w K mg base CX0 5 t.f_find_plan t.d_find_plan ["house","steps"] (spFind t):=by
 refine T.x_find_plan.F.ok scFind (fun vs H Q E h=>?_) (fun cdv A outer s H vs Q E hr h=>?_)
 ·obtain ⟨M,a,n,h,rfl,_⟩:=h
  rfl
 ·obtain ⟨M0,a,n,h,rfl,hH,Wh,hn,k⟩:=h
  have hu:A.units + 3 + 2 < cLine:=by
   have:=hr.units
   have e:(A.deeper (envOfC (Str.ofString "find_plan") (defScope s_find_plan) s.heap.objs.size t.f_find_plan cdv)).units=A.units + 3:=rfl
   omega
  refine ⟨_,(pss_cons (ps_setLc (i:=2) (own:=[("minute",4)]) rfl scFind.nd rfl rfl (sw_true rfl rfl (by rfl) (by rfl)) (pi_range1 rfl T.n_range (pa_cons (pe_op op_add (pe_fld (pv 0) rfl) pe_int) pa_nil)) (blkOk_by (show blkC nmFind (defScope s_find_plan) _ _=true by decide +kernel)) (fun _ _ _ _ _=>pg_name (i:=4) scFind.nd rfl (Or.inl rfl)) (fun _ _ _ _ _=>pts_nil) (fun _ _ _ _ _=>pe_lst pa_nil))
   (pss_cons (ps_expr (pe_bm PySem.F.plainAttrs_list PySem.F.slot_list_append PySem.F.type_list_append mt_append (pe_ix ix_list (pv 2) pe_int (fun _ _=>rfl)) (pa_cons (pe_call (ok_emptyPlan T) (hr.mono (by decide)) rfl T.x_empty_plan.m T.x_empty_plan.F.kp T.x_empty_plan.b .nil pass0 (pa_cons (pv 0) pa_nil)) pa_nil)))
   (pss_cons (ps_set (i:=3) scFind.nd rfl (Or.inl rfl) pe_dnewN)
   (pss_cons (ps_for PassesOwn.never rfl (pi_range1 rfl T.n_range (pa_cons (pe_op op_add (pe_fld (pv 0) rfl) pe_int) pa_nil)) (pg_name (i:=4) scFind.nd rfl (Or.inl rfl)) (pss_cons (ps_set (i:=5) scFind.nd rfl (Or.inl rfl) (pe_sortK (ok_orderOf T) (hr.mono (by decide)) T.x_order_of.b rfl T.n_sorted rfl T.x_order_of.m (pe_ix ix_list (pv 2) (pv 4) (fun _ _=>rfl))))
   (pss_one (ps_for PassesOwn.never rfl (pi_list (pv 5)) (pg_name (i:=6) scFind.nd rfl (Or.inl rfl)) (pss_cons (ps_set (i:=7) scFind.nd rfl (Or.inl rfl) (pe_tup (pa_cons (pe_callTy call_tuple_of rfl T.n_tuple boot_tuple (pa_cons (pe_fld (pv 6) rfl) pa_nil)) (pa_cons (pe_callTy call_tuple_of rfl T.n_tuple boot_tuple (pa_cons (pe_fld (pv 6) rfl) pa_nil)) pa_nil))))
   (pss_cons (ps_if (pt_cmpR (op_inN hu) (pv 7) (pv 3) rfl) (pss_one ps_continue) pss_nil)
   (pss_cons (ps_if (pt_val (pe_call (ok_isWhole T) (hr.mono (by decide)) rfl T.x_is_whole.m T.x_is_whole.F.kp T.x_is_whole.b .nil pass0 (pa_cons (pv 0) (pa_cons (pv 6) pa_nil)))) (pss_one (ps_ret (pe_tup (pa_cons (pe_const rfl T.k_FOUND) (pa_cons (pv 6) pa_nil))))) pss_nil)
   (pss_cons (ps_if (pt_cmpR op_eq (pe_callB call_lenN rfl T.n_len PySem.boot_len (pa_cons (pv 3) pa_nil)) (pv 1) (nomark _)) (pss_one (ps_ret (pe_tup (pa_cons (pe_const rfl T.k_STEPS_USED_UP) (pa_cons pe_non pa_nil))))) pss_nil)
   (pss_cons (ps_asg pe_bl (pg_sub (pv 3) (pv 7) (set_N hu)))
   (pss_one (ps_for PassesOwn.never rfl (pi_list (pe_call (ok_longers T) hr rfl T.x_longer_plans.m T.x_longer_plans.F.kp T.x_longer_plans.b .nil pass0 (pa_cons (pv 0) (pa_cons (pv 6) pa_nil)))) (pg_name (i:=8) scFind.nd rfl (Or.inl rfl)) (pss_one (ps_expr (pe_bm PySem.F.plainAttrs_list PySem.F.slot_list_append PySem.F.type_list_append mt_append (pe_ix ix_list (pv 2) (pe_fld (pv 8) rfl) (fun _ _=>rfl)) (pa_cons (pv 8) pa_nil)))))))))))))))
   (pss_one (ps_ret (pe_tup (pa_cons (pe_const rfl T.k_NONE_FOUND) (pa_cons pe_non pa_nil))))))))),?_⟩
  obtain ⟨pa,ta,ra,ba,ts,rs,⟨dx,ho⟩,_⟩:=id hH
  have hlim:=Wh.lim
  have ej:((h.limit:Int) + 1).toNat=h.limit + 1:=by omega
  refine ⟨_,rfl,a,_,dx,_,_,rfl,ho,T.cl_House,T.no_House_limit,rfl,_,_,rfl,rfl,_,rfl,by omega,by omega,fun W nW=>?_⟩
  refine lc_range (n:=((h.limit:Int) + 1).toNat) (fun i H'=>Same H H'∧∃ wl:List Addr,wl.length=i∧wl.Nodup∧W∉wl∧H' W=some (.lst (wl.map V.ref))∧∀ l∈wl,H' l=some (.lst [])∧H l=none) ⟨Same.new nW,[],rfl,List.nodup_nil,by simp,upd_same,fun _ z=>nomatch z⟩ (fun i H' hi p=>?_) (fun H1 p=>?_)
  ·obtain ⟨sm,wl,e1,e2,e3,e4,e5⟩:=p
   refine ⟨rfl,Nat.zero_le _,fun l nl=>?_⟩
   have sl:Same H' (upd H' l (.lst [])):=Same.new nl
   have nlW:l≠W:=fun z=>by rw [z,e4] at nl;cases nl
   have nlw:l∉wl:=fun z=>by rw [(e5 l z).1] at nl;cases nl
   refine ⟨_,sl _ _ e4,by rw [List.length_map];exact small1000 (by omega),Same.over nW (sm.trans sl),wl++[l],by rw [List.length_append,e1];rfl,?_,?_,by rw [upd_same,List.map_append];rfl,fun c hc=>?_⟩
   ·rw [List.nodup_append]
    refine ⟨e2,by simp,fun x hx y hy=>?_⟩
    have:y=l:=by simpa using hy
    subst this
    exact fun z=>nlw (by rw [← z];exact hx)
   ·intro z
    rcases List.mem_append.mp z with z | z
    ·exact e3 z
    ·have z':W=l:=by simpa using z
     exact nlW z'.symm
   ·rcases List.mem_append.mp hc with hc | hc
    ·have q:=e5 c hc
     refine ⟨?_,q.2⟩
     rw [upd_ne (fun z=>e3 (by rw [← z];exact hc))]
     exact sl _ _ q.1
    ·have ec:c=l:=by simpa using hc
     subst ec
     refine ⟨?_,sm.free nl⟩
     rw [upd_ne nlW,upd_same]
  ·obtain ⟨s1,wl,e1,e2,e3,e4,e5⟩:=p
   rw [ej] at e1
   obtain ⟨l0,h0⟩:∃ l0,wl[0]?=some l0:=⟨_,List.getElem?_eq_getElem (by omega)⟩
   have m0:l0∈wl:=List.mem_of_getElem? h0
   have thw:There wl H1:=fun m hm=>⟨_,(e5 m hm).1⟩
   refine ⟨_,rfl,W,_,_,V.ref l0,rfl,rfl,SqL.of e4,at_of (j:=0) rfl (by rw [List.getElem?_map,h0];rfl),Or.inl ⟨rfl,_,SqL.of (e5 l0 m0).1⟩,_,rfl,wl,M0,a,h,rfl,hH.same s1,thw,by rw [Wh.bl];exact four_le Wh.pl,fun H2 q s2 ip=>?_⟩
   refine ⟨l0,_,_,rfl,rfl,s2 _ _ (e5 l0 m0).1,by show 0 < sizeLine;decide,?_⟩
   intro d nd
   have thw2:There wl H2:=thw.same s2
   have nd2:H2 d=none:=by
    cases e:H2 d with
    | none=>rfl
    | some o =>
     by_cases z:d=l0
     ·rw [z,upd_same] at nd;cases nd
     ·rw [upd_ne z,e] at nd;cases nd
   have ndl:d≠l0:=fun z=>by rw [z,upd_same] at nd;cases nd
   have ndw:d∉wl:=thw2.not nd2
   have s12:Same H H2:=s1.trans s2
   have dnone:H d=none:=s12.free nd2
   have F0:FI P w t H n (upd (upd H2 l0 (.lst ([]++[V.ref q]))) d (dN P w d [])) d W wl (CsM.start0 h) [] []:=by
    have sm3:Same H (upd H2 l0 (.lst ([]++[V.ref q]))):=Same.over (e5 l0 m0).2 s12
    have k2:Kp (d::wl) H2 (upd (upd H2 l0 (.lst ([]++[V.ref q]))) d (dN P w d [])):=(Kp.upd (List.mem_cons_of_mem _ m0)).trans (Kp.upd List.mem_cons_self)
    refine ⟨Same.over dnone sm3,⟨?_,?_,e2,fun l hl=>List.mem_cons_of_mem _ hl,fun c l hl=>?_⟩,DN.new,rfl,Nat.zero_le _,fun m hm=>?_⟩
    ·rw [upd_ne (fun z=>by rw [z] at e4;rw [s2 _ _ e4] at nd2;cases nd2),upd_ne (fun z=>e3 (by rw [z];exact m0))]
     exact s2 _ _ e4
    ·intro z
     rcases List.mem_cons.mp z with z | z
     ·rw [z] at e4;rw [s2 _ _ e4] at nd2;cases nd2
     ·exact e3 z
    ·have lw:l∈wl:=List.mem_of_getElem? hl
     by_cases hc:c=0
     ·subst hc
      rw [h0] at hl
      cases hl
      refine ⟨[q],by rw [upd_ne ndl.symm,upd_same];rfl,?_⟩
      have e:CsM.start0 h 0=[⟨Vbcjaj.fresh h,[]⟩]:=rfl
      rw [e]
      refine ⟨rfl,fun i b y hb hy=>?_⟩
      cases i with
      | zero =>
       cases hb
       cases hy
       exact (ip.more nd2).mono k2
      | succ i=>simp at hb
     ·refine ⟨[],?_,?_⟩
      ·rw [upd_ne (fun z=>ndw (by rw [← z];exact lw)),upd_ne (fun z=>hc (nd_ix e2 hl (by rw [z];exact h0)))]
       exact s2 _ _ (e5 l lw).1
      ·have e:CsM.start0 h c=[]:=by unfold CsM.start0;rw [if_neg hc]
       rw [e]
       exact Plans.nil
    ·rcases List.mem_cons.mp hm with rfl | hm
     ·exact dnone
     ·exact (e5 m hm).2
   refine ⟨_,rfl,a,_,dx,_,_,rfl,F0.sm _ _ ho,T.cl_House,T.no_House_limit,rfl,_,_,rfl,rfl,_,rfl,by omega,by omega,?_⟩
   refine for_range (n:=((h.limit:Int) + 1).toNat) (fun m σ H'=>∃ (v4 v5 v6 v7 v8:Option V) (bs:CsM.Bs) (keys:CsM.Keys) (xs:Pks),σ=[some (.ref a),some (.int n),some (.ref W),some (.ref d),v4,v5,v6,v7,v8]∧FI P w t H n H' d W wl bs keys xs∧CsM.AtM h (Vbcjaj.plan h n) n m bs keys∧∀ c,(bs c).length≤1 + 14 * keys.length)
    ⟨none,none,none,none,none,CsM.start0 h,[],[],rfl,F0,CsM.AtM.start h n,fun c=>?_⟩ ?_ ?_
   ·unfold CsM.start0
    split
    ·exact Nat.le_refl _
    ·exact Nat.zero_le _
   ·rintro m σ H' hm ⟨v4,v5,v6,v7,v8,bs,keys,xs,rfl,F,AM,bd⟩
    rw [ej] at hm
    have hm':m≤h.limit:=by omega
    obtain ⟨l,hl⟩:∃ l,wl[m]?=some l:=⟨_,List.getElem?_eq_getElem (by omega)⟩
    obtain ⟨as,ha,pl⟩:=F.bk.at_ m l hl
    obtain ⟨ps,p1,p2,p3⟩:=pl.triples
    have hkl:=F.kl
    have asl:as.length≤3000:=by
     rw [pl.len]
     have:=bd m
     omega
    have big:∀ {c:Nat},c≤3100→c < sizeLine:=fun {c} hc=>by rw [sizeLine_eq];omega
    have ecs:(ps.map fun p=>((p.1,p.2.1,p.2.2.plan.map fun (x:Nat)=>(x:Int)):Kd)).map (fun c=>V.ref c.1)=as.map V.ref:=by rw [List.map_map,← p1,List.map_map];rfl
    refine ⟨_,rfl,_,rfl,W,_,_,V.ref l,rfl,rfl,SqL.of F.bk.lst,at_of (j:=m) (Int.zero_add _) (by rw [List.getElem?_map,hl];rfl),_,rfl,l,ps.map fun p=>((p.1,p.2.1,p.2.2.plan.map fun (x:Nat)=>(x:Int)):Kd),rfl,SqL.of (by rw [ecs];exact ha),?_,fun c hc=>?_,fun L cs' nL pm srt=>?_⟩
    ·have:ps.length=as.length:=by rw [← p1,List.length_map]
     rw [List.length_map,this]
     exact Nat.le_of_lt (big (by omega))
    ·obtain ⟨p,hp,rfl⟩:=List.mem_map.mp hc
     obtain ⟨d',b',pat⟩:=p3 p hp
     exact ⟨⟨_,p.1,p.2.1,d',b',p.2.2,rfl,pat,rfl,rfl⟩,by rw [nv_cast];exact pat.order⟩
    obtain ⟨ps',q1,q2⟩:=CsS.perm_of_map _ cs' ps pm
    subst q2
    have ecs':(ps'.map fun p=>((p.1,p.2.1,p.2.2.plan.map fun (x:Nat)=>(x:Int)):Kd)).map (fun c=>V.ref c.1)=(ps'.map (·.1)).map V.ref:=by rw [List.map_map,List.map_map];rfl
    rw [ecs']
    have pls:Plans t (d::wl) H' (ps'.map (·.1)) (ps'.map (·.2.2)):=Plans.of fun p hp=>p3 p (q1.mem_iff.mp hp)
    have IM:CsM.InM h (Vbcjaj.plan h n) n m (ps'.map (·.2.2)) bs keys:=by
     refine AM.enter hm' ?_ ?_
     ·rw [← p2]
      exact q1.map _
     ·rw [List.pairwise_map] at srt ⊢
      refine srt.imp fun {x y} hxy=>?_
      rw [← lexI_cast]
      exact hxy
    have sL:=Same.new (o:=HO.lst ((ps'.map (·.1)).map V.ref)) nL
    have LM:L∉d::wl:=F.there.not nL
    generalize hH2:upd H' L (.lst ((ps'.map (·.1)).map V.ref))=H2' at sL ⊢
    have hL2:H2' L=some (.lst ((ps'.map (·.1)).map V.ref)):=by rw [← hH2,upd_same]
    have F2:=F.same sL
    have pls2:=pls.same sL
    generalize ps'.map (·.1)=as' at hL2 pls2 ⊢
    generalize ps'.map (·.2.2)=ws at pls2 IM ⊢
    clear hH2 ecs' ecs p1 p2 p3 q1 srt pls
    refine ⟨_,rfl,L,rfl,⟨_,SqL.of hL2⟩,?_⟩
    refine for_list (K:=K) (a:=L) (xs:=as'.map V.ref) (fun j σ H3=>∃ (v6 v7 v8:Option V) (bs:CsM.Bs) (keys:CsM.Keys) (xs:Pks),σ=[some (.ref a),some (.int n),some (.ref W),some (.ref d),some (.int (0 + (m:Int))),some (.ref L),v6,v7,v8]∧FI P w t H n H3 d W wl bs keys xs∧Kp (d::wl) H2' H3∧CsM.InM h (Vbcjaj.plan h n) n m (ws.drop j) bs keys∧∀ c,(bs c).length≤1 + 14 * keys.length)
     ⟨v6,v7,v8,bs,keys,xs,rfl,F2,Kp.refl _ _,IM,bd⟩ (fun j σ H3 _ ⟨_,_,_,_,_,_,_,_,kp,_⟩=>SqL.of (kp _ _ hL2 LM)) ?_ ?_
    ·rintro j y σ H3 hy ⟨v6,v7,v8,bs,keys,xs,rfl,F3,kp3,IM,bd⟩
     obtain ⟨p,hp,rfl⟩:=get_map hy
     have hj:j < ws.length:=by
      have:=(List.getElem?_eq_some_iff.mp hp).1
      rw [pls2.len] at this
      exact this
     obtain ⟨x,hx⟩:∃ x,ws[j]?=some x:=⟨_,List.getElem?_eq_getElem hj⟩
     have hdrop:ws.drop j=x::ws.drop (j + 1):=by
      rw [List.drop_eq_getElem_cons hj]
      congr 1
      rw [List.getElem?_eq_getElem hj] at hx
      exact Option.some.inj hx
     rw [hdrop] at IM
     have ipx:IsPlan t (d::wl) H3 p x:=(pls2.at_ j p x hp hx).mono kp3
     have Gx:Good h x:=det_good Wh (IM.det List.mem_cons_self)
     obtain ⟨o,dd,bb,⟨dy,po⟩,o1,o2,o3,_⟩:=id ipx
     have hbl:=Gx.bl
     have hpl4:=Wh.pl
     have hsh:=Gx.short
     refine ⟨_,rfl,p,_,dy,_,_,rfl,po,T.cl_Plan,T.no_Plan_done,rfl,dd,_,rfl,Or.inl ⟨SqL.of o2,fun u1 n1=>?_⟩⟩
     have t1:=Same.new (o:=HO.tup (nv x.going.done)) n1
     refine ⟨_,rfl,p,_,dy,_,_,rfl,t1 _ _ po,T.cl_Plan,T.no_Plan_beliefs,rfl,bb,_,rfl,Or.inl ⟨SqL.of (t1 _ _ o3),fun u2 n2=>?_⟩⟩
     have t2:=Same.new (o:=HO.tup (nv x.going.beliefs)) n2
     refine ⟨by show 2≤sizeLine;decide,fun U nU=>?_⟩
     have t3:=Same.new (o:=HO.tup [V.ref u1,V.ref u2]) nU
     have pA:PairAt (upd (upd (upd H3 u1 (.tup (nv x.going.done))) u2 (.tup (nv x.going.beliefs))) U (.tup [V.ref u1,V.ref u2])) (enc (CsM.keyOf x)) U :=
      ⟨u1,u2,upd_same,by show _=some (HO.tup ((encL x.going.done).map kV));rw [encL_kV];exact t3 _ _ (t2 _ _ upd_same),by show _=some (HO.tup ((encL x.going.beliefs).map kV));rw [encL_kV];exact t3 _ _ upd_same⟩
     have t123:=(t1.trans t2).trans t3
     generalize upd (upd (upd H3 u1 (.tup (nv x.going.done))) u2 (.tup (nv x.going.beliefs))) U (.tup [V.ref u1,V.ref u2])=H4 at pA t123 ⊢
     have F4:=F3.same t123
     have kp4:Kp (d::wl) H2' H4:=kp3.trans (Kp.same t123)
     have ip4:=ipx.same t123
     have hH4:IsHouse t M0 H4 a h:=hH.same F4.sm
     refine ⟨_,rfl,_,rfl,U,d,enc (CsM.keyOf x),xs,rfl,rfl,F4.dn,pA,_,rfl,?_⟩
     rw [any_enc F4.ks]
     refine ifB (fun z=>?_) (fun z=>?_)
     ·exact ⟨_,_,_,bs,keys,xs,rfl,F4,kp4,IM.seen z,bd⟩
     refine ⟨_,rfl,_,rfl,M0,d::wl,a,p,h,x,rfl,hH4,ip4,_,rfl,?_⟩
     refine ifB (fun z2=>?_) (fun z2=>?_)
     ·refine ⟨_,rfl,by show 2≤sizeLine;decide,fun U2 nU2=>?_⟩
      have sU:=Same.new (o:=HO.tup [V.int 1,V.ref p]) nU2
      refine k _ U2 1 (.ref p) (F4.sm.trans sU) upd_same ?_
      rw [IM.found z z2]
      exact ⟨rfl,Nat.le_trans Gx.pl (Nat.le_trans Gx.lim hlim),p,rfl,(ip4.same sU).less fun m hm=>nomatch hm⟩
     have hxl:xs.length=keys.length:=by
      have:=congrArg List.length F4.ks
      rw [List.length_map,List.length_map] at this
      exact this
     refine ⟨_,rfl,d,xs,rfl,F4.dn,_,rfl,rfl,_,rfl,?_⟩
     rw [hxl,dec_int_eq]
     refine ifB (fun z3=>?_) (fun z3=>?_)
     ·refine ⟨by show 2≤sizeLine;decide,fun U2 nU2=>?_⟩
      have sU:=Same.new (o:=HO.tup [V.int 2,V.non]) nU2
      refine k _ U2 2 .non (F4.sm.trans sU) upd_same ?_
      rw [IM.spent z z2 (of_decide_eq_true z3)]
      exact ⟨rfl,rfl⟩
     have z3':keys.length≠n:=of_decide_eq_false z3
     have hroom:=IM.room z z2 z3'
     refine ⟨_,rfl,_,rfl,U,d,enc (CsM.keyOf x),xs,rfl,rfl,rfl,F4.dn,pA,by rw [any_enc F4.ks];exact z,by rw [hxl];exact big (by omega),?_⟩
     have F5:=F4.put pA hroom
     have kp5:Kp (d::wl) H2' (upd H4 d (dN P w d (xs++[(enc (CsM.keyOf x),U)]))):=kp4.trans (Kp.upd List.mem_cons_self)
     have ip5:IsPlan t (d::wl) (upd H4 d (dN P w d (xs++[(enc (CsM.keyOf x),U)]))) p x:=ip4.mono (Kp.upd List.mem_cons_self)
     have IM6:=IM.step Wh.long z z2 z3'
     refine ⟨_,rfl,_,rfl,M0,d::wl,a,p,h,x,rfl,hH.same F5.sm,Wh,ip5,Gx,F5.there,fun H6 L6 ls s6 nL6 hL6 pl6=>?_⟩
     have F6:=F5.same s6
     have kp6:=kp5.trans (Kp.same s6)
     have L6M:L6∉d::wl:=F5.there.not nL6
     refine ⟨L6,rfl,⟨_,SqL.of hL6⟩,?_⟩
     refine for_list (K:=K) (a:=L6) (xs:=ls.map V.ref) (fun i σ H7=>∃ v8:Option V,σ=[some (.ref a),some (.int n),some (.ref W),some (.ref d),some (.int (0 + (m:Int))),some (.ref L),some (.ref p),some (.ref U),v8]∧FI P w t H n H7 d W wl (CsM.pushAll bs ((Vbcjaj.further h x).take i)) (keys++[CsM.keyOf x]) (xs++[(enc (CsM.keyOf x),U)])∧Kp (d::wl) H6 H7∧∀ c,(CsM.pushAll bs ((Vbcjaj.further h x).take i) c).length≤1 + 14 * keys.length + i)
      ⟨v8,rfl,F6,Kp.refl _ _,bd⟩ (fun i σ H7 _ ⟨_,_,_,kp,_⟩=>SqL.of (kp _ _ hL6 L6M)) ?_ ?_
     ·rintro i y σ H7 hy ⟨v8',rfl,F7,kp7,bd7⟩
      obtain ⟨q',hq',rfl⟩:=get_map hy
      have hi:i < (Vbcjaj.further h x).length:=by
       have:=(List.getElem?_eq_some_iff.mp hq').1
       rw [pl6.len] at this
       exact this
      obtain ⟨x',hx'⟩:∃ x',(Vbcjaj.further h x)[i]?=some x':=⟨_,List.getElem?_eq_getElem hi⟩
      have ip7:IsPlan t (d::wl) H7 q' x':=(pl6.at_ i q' x' hq' hx').mono kp7
      obtain ⟨o',d',b',⟨dq,qo⟩,_⟩:=id ip7
      have hmin:=CsM.further_minutes Wh.long (List.mem_of_getElem? hx')
      obtain ⟨l',hl'⟩:∃ l',wl[x'.going.minutes]?=some l':=⟨_,List.getElem?_eq_getElem (by omega)⟩
      obtain ⟨as7,ha7,pl7⟩:=F7.bk.at_ x'.going.minutes l' hl'
      have as7l:as7.length≤3000:=by
       rw [pl7.len]
       have b7:=bd7 x'.going.minutes
       have:(Vbcjaj.further h x).length≤14:=by rw [further_goers Wh,List.length_map];exact goers_len h x 14
       omega
      refine ⟨_,rfl,_,rfl,q',_,dq,_,_,rfl,qo,T.cl_Plan,T.no_Plan_minutes,rfl,W,_,_,V.ref l',rfl,rfl,SqL.of F7.bk.lst,at_of (j:=x'.going.minutes) rfl (by rw [List.getElem?_map,hl'];rfl),Or.inl ⟨rfl,_,SqL.of ha7⟩,_,rfl,l',_,_,rfl,rfl,ha7,by rw [List.length_map];exact big (by omega),?_⟩
      have et:(Vbcjaj.further h x).take (i + 1)=(Vbcjaj.further h x).take i++[x']:=by rw [List.take_add_one,hx'];rfl
      have F8:=F7.push hl' ha7 pl7 ip7
      rw [← pushAll_snoc,← et] at F8
      refine ⟨_,rfl,F8,kp7.trans (Kp.upd (List.mem_cons_of_mem _ (List.mem_of_getElem? hl'))),fun c=>?_⟩
      rw [et,pushAll_snoc]
      have:=push_len (CsM.pushAll bs ((Vbcjaj.further h x).take i)) x' c
      have:=bd7 c
      omega
     ·rintro σ H7 ⟨v8',rfl,F7,kp7,bd7⟩
      have hfl:(Vbcjaj.further h x).take (ls.map V.ref).length=Vbcjaj.further h x:=List.take_of_length_le (by rw [List.length_map,pl6.len];exact Nat.le_refl _)
      rw [hfl] at F7 bd7
      refine ⟨_,_,v8',_,_,_,rfl,F7,kp6.trans kp7,IM6,fun c=>?_⟩
      have b7:=bd7 c
      have:(Vbcjaj.further h x).length≤14:=by rw [further_goers Wh,List.length_map];exact goers_len h x 14
      rw [List.length_map,pl6.len] at b7
      rw [List.length_append]
      show _≤1 + 14 * (keys.length + 1)
      omega
    ·rintro σ H3 ⟨v6,v7,v8,bs,keys,xs,rfl,F3,kp3,IM,bd⟩
     rw [List.length_map,pls2.len,List.drop_length] at IM
     exact ⟨_,_,v6,v7,v8,bs,keys,xs,rfl,F3,IM.leave,bd⟩
   ·rintro σ H' ⟨v4,v5,v6,v7,v8,bs,keys,xs,rfl,F,AM,bd⟩
    rw [ej] at AM
    refine ⟨by show 2≤sizeLine;decide,fun U nU=>?_⟩
    have sU:=Same.new (o:=HO.tup [V.int 0,V.non]) nU
    refine k _ U 0 .non (F.sm.trans sU) upd_same ?_
    rw [AM.over]
    exact ⟨rfl,rfl⟩
end
theorem for_enum {K:PySem.W.Frag} {a:Addr} {xs:List V} {g:TG} {tb:TS} {D:Ends} {σ:L2.St} {H:Hp} (Pv:Nat→L2.St→Hp→Prop) (h0:Pv 0 σ H) (hl:∀ i σ H,Pv i σ H→SqL K H a xs)
  (hs:∀ i x T σ H,xs[i]?=some x→H T=none→Pv i σ H→g (.ref T) σ (upd H T (.tup [.int (i:Nat),x])) fun σ2 H2=>tb { D with nx:=Pv (i + 1),ct:=Pv (i + 1),bk:=D.nx } σ2 H2) (hd:∀ σ H,Pv xs.length σ H→D.nx σ H) :
  ∃ W:Nat→Nat→L2.St→Hp→Prop,(∃ m,W 0 m σ H)∧∀ i m σ H,W i m σ H →
   ((Ite K a).stop i H∧D.nx σ H)∨((Ite K a).go i H∧∃ N:L2.St→Hp→Prop,(∀ σ' H',N σ' H'→∃ m',m' < m∧W (i + 1) m' σ' H')∧∀ x H',(Ite K a).yld i H x H'→g x σ H' fun σ2 H2=>tb { D with nx:=N,ct:=N,bk:=D.nx } σ2 H2):=by
 refine ⟨fun i m σ H=>m=xs.length - i∧i≤xs.length∧Pv i σ H,⟨xs.length,by simp,Nat.zero_le _,h0⟩,?_⟩
 rintro i m σ H ⟨rfl,hi,p⟩
 have q:=hl i σ H p
 by_cases hlt:i < xs.length
 ·refine .inr ⟨⟨xs,xs[i],q,by simp [hlt]⟩,Pv (i + 1),fun σ' H' p'=>⟨xs.length - (i + 1),by omega,rfl,hlt,p'⟩,fun x H' y=>?_⟩
  obtain ⟨U,x1,rfl,hU,rfl,f⟩:=y
  exact hs i x1 U σ H (f xs q) hU p
 ·have e:i=xs.length:=by omega
  subst e
  exact .inl ⟨⟨xs,q,Nat.le_refl _⟩,hd σ H p⟩
section
variable {P:Program} {w:World} {K:PySem.W.Frag} {mg:Str→Option Value} {base:Heap} {t:Ad}
def lineF (hs:Addr) (sh:V):List (Str × V):=[("house",.ref hs),("show",sh)]
def LineHouse (t:Ad) (M:List Addr) (H:Hp) (ln:Addr) (h:Vbcjaj.House):Prop:=∃ dx hs sh,H ln=some (.ins t.c_Line dx (lineF hs sh))∧IsHouse t M H hs h
def newInts (H:Hp) (l:List Int) (Q:VK):Prop:=∀ H' D,Same H H'→H D=none→H' D=some (.lst (l.map V.int))→Q (.ref D) H'
theorem newInts.one {H H1:Hp} {l:List Int} {Q:VK} (k:newInts H l Q) (s:Same H H1) (vs:List V) (e:vs=l.map V.int):∀ D,H1 D=none→Q (.ref D) (upd H1 D (.lst vs)):=fun D nD=>k _ D (s.trans (Same.new nD)) (s.free nD) (by rw [upd_same,e])
def runsAns (h:Vbcjaj.House) (l:List Int):List Int:=if (decide (l.length≤30) && l.all fun x=>Vbcjaj.inside x 0 13)=false then [-2] else match Vbcjaj.goAll h 0 (Vbcjaj.fresh h) (Vbcjaj.nats l) with
   | .ok g=>1::Vbcjaj.whole g.minutes::Vbcjaj.bit (Vbcjaj.whole_ h g)::Vbcjaj.ints g.beliefs
   | .error (k,e)=>[0,Vbcjaj.whole k,Vbcjaj.whole e]
theorem runs_step (s:Vbcjaj.State) (l:List Int):Vbcjaj.step s (.runs l)=(s,runsAns s.house l):=by
 show (if (decide (l.length≤30) && l.all fun x=>Vbcjaj.inside x 0 13)=false then Vbcjaj.no s (-2) else (s,_))=_
 unfold runsAns Vbcjaj.no
 split <;> rfl
def spRuns (t:Ad) (K:PySem.W.Frag):Sp:=fun vs H Q _=>∃ (M:List Addr) (ln o:Addr) (h:Vbcjaj.House) (ns:List Int),vs=[.ref ln,.ref o]∧LineHouse t M H ln h∧Wf h∧SqL K H o (ns.map V.int)∧ns.length≤sizeLine∧newInts H (runsAns h ns) Q
abbrev nmRuns:List Str:=["line","order","house","plan","place","number","reason"]
theorem scRuns:FnScope nmRuns ["line","order"] (defScope s_answer_runs):=⟨rfl,rfl,rfl,by decide +kernel,rfl,by decide +kernel,by decide +kernel⟩
theorem goAll_cons {h:Vbcjaj.House} (k i:Nat) (g:Vbcjaj.Going) (l:List Nat):Vbcjaj.goAll h k g (i::l)=match Vbcjaj.goOn h g i with
  | .error e=>.error (k,e)
  | .ok x=>Vbcjaj.goAll h (k + 1) x l:=rfl
theorem goAll_take {h:Vbcjaj.House}:∀ (l:List Nat) (k i n:Nat) (g x:Vbcjaj.Going),l[i]?=some n→Vbcjaj.goAll h k g (l.take i)=.ok x→Vbcjaj.goAll h k g l=match Vbcjaj.goOn h x n with
  | .error e=>.error (k + i,e)
  | .ok y=>Vbcjaj.goAll h (k + i + 1) y (l.drop (i + 1))
 | [],k,i,n,g,x,h1,_=>by simp at h1
 | a::l,k,0,n,g,x,h1,h2=>by
  cases h1
  cases h2
  rfl
 | a::l,k,i + 1,n,g,x,h1,h2=>by
  rw [List.take_succ_cons,goAll_cons] at h2
  rw [goAll_cons]
  cases hg:Vbcjaj.goOn h g a with
  | error z=>rw [hg] at h2;cases h2
  | ok y =>
   rw [hg] at h2
   dsimp only at h2 ⊢
   have:=goAll_take l (k + 1) i n y x (by simpa using h1) h2
   rw [this,List.drop_succ_cons]
   have e:k + 1 + i=k + (i + 1):=by omega
   rw [e]
theorem ok_runs (T:Tx K mg t):FnOk P w K mg base CX0 4 t.f_answer_runs t.d_answer_runs ["line","order"] (spRuns t K):=by
 refine T.x_answer_runs.F.ok scRuns (fun vs H Q E h=>?_) (fun cdv A outer s H vs Q E hr h=>?_)
 ·obtain ⟨M,ln,o,h,ns,rfl,_⟩:=h
  rfl
 ·obtain ⟨M,ln,o,h,ns,rfl,⟨dl,hs,sh,hln,hH⟩,Wh,hS,hz,k⟩:=h
  refine ⟨_,pss_cons (ps_set (i:=2) scRuns.nd rfl (Or.inl rfl) (pe_fld (pv 0) rfl))
   (pss_cons (ps_if (PW.pt (pw_or (pt_cmpR op_gt (pe_callB call_len_seq rfl T.n_len PySem.boot_len (pa_cons (pv 1) pa_nil)) (pe_const rfl T.k_MOST_IN_LIST) (nomark _)) (pw_or1 (pt_not (pt_val (pe_call (ok_allWithin T) (hr.mono (by decide)) rfl T.x_all_within.m T.x_all_within.F.kp T.x_all_within.b .nil pass0 (pa_cons (pv 1) (pa_cons pe_int (pa_cons (pe_const rfl T.k_LAST_ITEM) pa_nil))))))))) (pss_one (ps_ret (pe_lst (pa_cons (pe_const rfl T.k_WRONG_LIST) pa_nil)))) pss_nil)
   (pss_cons (ps_set (i:=3) scRuns.nd rfl (Or.inl rfl) (pe_call (ok_emptyPlan T) hr rfl T.x_empty_plan.m T.x_empty_plan.F.kp T.x_empty_plan.b .nil pass0 (pa_cons (pv 2) pa_nil)))
   (pss_cons (ps_for PassesOwn.never rfl (pi_enum rfl T.n_enumerate (pa_cons (pv 1) pa_nil)) (pg_pair (i:=4) (j:=5) rfl scRuns.nd rfl (Or.inl rfl) rfl (Or.inl rfl) (Or.inr rfl) (Or.inr rfl))
    (pss_cons (ps_set (i:=6) scRuns.nd rfl (Or.inl rfl) (pe_call (ok_reason T) hr rfl T.x_reason_against.m T.x_reason_against.F.kp T.x_reason_against.b .nil pass0 (pa_cons (pv 2) (pa_cons (pv 3) (pa_cons (pv 5) pa_nil)))))
    (pss_cons (ps_if (pt_cmpR op_ne (pv 6) (pe_const rfl T.k_RUNS) (nomark _)) (pss_one (ps_ret (pe_lst (pa_cons pe_int (pa_cons (pv 4) (pa_cons (pv 6) pa_nil)))))) pss_nil)
    (pss_one (ps_set (i:=3) scRuns.nd rfl (Or.inl rfl) (pe_call (ok_longer T) hr rfl T.x_longer_plan.m T.x_longer_plan.F.kp T.x_longer_plan.b .nil pass0 (pa_cons (pv 2) (pa_cons (pv 3) (pa_cons (pv 5) pa_nil)))))))))
   (pss_one (ps_ret (pe_op op_cat (pe_lst (pa_cons pe_int (pa_cons (pe_fld (pv 3) rfl) (pa_cons (pe_ifExp (pt_val (pe_call (ok_isWhole T) (hr.mono (by decide)) rfl T.x_is_whole.m T.x_is_whole.F.kp T.x_is_whole.b .nil pass0 (pa_cons (pv 2) (pa_cons (pv 3) pa_nil)))) pe_int pe_int) pa_nil)))) (pe_fld (pv 3) rfl))))))),?_⟩
  refine ⟨_,rfl,ln,_,dl,_,_,rfl,hln,T.cl_Line,T.no_Line_house,rfl,?_⟩
  refine ⟨_,rfl,o,_,rfl,.inl hS,_,_,rfl,rfl,_,rfl,?_⟩
  rw [List.length_map]
  have wrong:∀ H1,Same H H1→runsAns h ns=[-2]→tRet (tLst (tCons (tC (.int (-2))) tNil)) { nx:=fun _ H'=>Q .non H',rt:=Q } [some (.ref ln),some (.ref o),some (.ref hs),none,none,none,none] H1:=fun H1 s1 e=>by
   rw [e] at k
   exact ⟨by show 1≤sizeLine;decide,k.one s1 _ rfl⟩
  by_cases hlen:ns.length≤30
  ·rw [decide_eq_false (show ¬ ((ns.length:Int) > 30) by omega)]
   refine iteF ?_
   refine ⟨_,rfl,o,ns,0,13,rfl,hS,hz,fun H1 s1=>⟨_,rfl,?_⟩⟩
   cases hall:ns.all fun n=>inR n 0 13 with
   | false =>
    refine iteT ?_
    refine wrong H1 s1 ?_
    unfold runsAns
    have e:(ns.all fun x=>Vbcjaj.inside x 0 13)=false:=hall
    rw [e,Bool.and_false,if_pos rfl]
   | true =>
    refine iteF ?_
    have hall':(ns.all fun x=>Vbcjaj.inside x 0 13)=true:=hall
    have eans:runsAns h ns=match Vbcjaj.goAll h 0 (Vbcjaj.fresh h) (Vbcjaj.nats ns) with
      | .ok g=>1::Vbcjaj.whole g.minutes::Vbcjaj.bit (Vbcjaj.whole_ h g)::Vbcjaj.ints g.beliefs
      | .error (k,e)=>[0,Vbcjaj.whole k,Vbcjaj.whole e]:=by
     unfold runsAns
     rw [hall',decide_eq_true hlen,if_neg (by simp)]
    rw [eans] at k
    have ens:ns=(Vbcjaj.nats ns).map fun (x:Nat)=>(x:Int):=by
     unfold Vbcjaj.nats
     rw [List.map_map]
     refine (List.map_id ns).symm.trans (List.map_congr_left fun x hx=>?_)
     have:=List.all_eq_true.mp hall x hx
     unfold inR at this
     simp at this
     show x=((x.toNat:Nat):Int)
     omega
    generalize Vbcjaj.nats ns=is at ens k
    have eV:ns.map V.int=nv is:=by rw [ens,nv_cast]
    rw [eV] at hS
    have hH1:=hH.same s1
    refine ⟨_,rfl,[],M,hs,h,rfl,hH1,(fun m hm=>nomatch hm),by rw [Wh.bl];exact four_le Wh.pl,fun H2 p0 s2 ip0=>?_⟩
    have s12:=s1.trans s2
    refine ⟨_,rfl,o,_,rfl,s12.seq hS,?_⟩
    refine for_enum (K:=K) (a:=o) (xs:=nv is) (fun i σ H'=>∃ (v4 v5 v6:Option V) (p:Addr) (g:Vbcjaj.Going),σ=[some (.ref ln),some (.ref o),some (.ref hs),some (.ref p),v4,v5,v6]∧Same H H'∧IsPlan t [] H' p ⟨g,is.take i⟩∧Good h ⟨g,is.take i⟩∧Vbcjaj.goAll h 0 (Vbcjaj.fresh h) (is.take i)=.ok g)
     ⟨none,none,none,p0,Vbcjaj.fresh h,rfl,s12,ip0,Good.fresh Wh,rfl⟩ (fun i σ H' ⟨_,_,_,_,_,_,sm,_⟩=>sm.seq hS) ?_ ?_
    ·rintro i y U σ H' hy nU ⟨v4,v5,v6,p,g,rfl,sm,ip,G,ga⟩
     obtain ⟨m,hm,rfl⟩:=get_map hy
     have sU:=Same.new (o:=HO.tup [V.int ((i:Nat):Int),V.int (m:Int)]) nU
     generalize hUU:upd H' U (.tup [V.int ((i:Nat):Int),V.int (m:Int)])=H3 at sU ⊢
     have hU3:H3 U=some (.tup [V.int ((i:Nat):Int),V.int (m:Int)]):=by rw [← hUU,upd_same]
     refine ⟨U,_,rfl,SqT.of hU3,rfl,_,_,rfl,_,_,rfl,rfl,?_⟩
     have s3:=sm.trans sU
     refine ⟨_,rfl,_,rfl,_,rfl,M,[],hs,p,m,h,⟨g,is.take i⟩,rfl,hH.same s3,Wh,ip.same sU,G,fun H4 s4=>?_⟩
     have s34:=s3.trans s4
     refine ⟨_,rfl,rfl,_,rfl,?_⟩
     have hgt:=goAll_take is 0 i m (Vbcjaj.fresh h) g hm ga
     rw [Nat.zero_add] at hgt
     show if (!decide (V.int ((reason h ⟨g,is.take i⟩ m:Nat):Int)=V.int ((0:Nat):Int)))=true then _ else _
     rw [dec_int_eq]
     by_cases hr0:reason h ⟨g,is.take i⟩ m=0
     ·rw [decide_eq_true hr0]
      refine iteF ?_
      obtain ⟨g',hg'⟩:=reason_zero.mp hr0
      refine ⟨_,rfl,_,rfl,_,rfl,M,[],hs,p,m,h,⟨g,is.take i⟩,g',rfl,hH.same s34,Wh,(ip.same sU).same s4,G,(fun m hm=>nomatch hm),hg',fun H5 p' s5 ip'=>?_⟩
      have et:is.take (i + 1)=is.take i++[m]:=by rw [List.take_add_one,hm];rfl
      refine ⟨_,_,_,p',g',rfl,s34.trans s5,by rw [et];exact ip',by rw [et];exact G.next Wh hg',?_⟩
      rw [et]
      exact CsM.goAll_snoc h _ 0 m _ _ _ ga hg'
     ·rw [decide_eq_false hr0]
      refine iteT ?_
      refine ⟨_,rfl,_,rfl,by show 3≤sizeLine;decide,?_⟩
      cases hg:Vbcjaj.goOn h g m with
      | ok g'=>exact absurd (reason_zero.mpr ⟨g',hg⟩) hr0
      | error e =>
       rw [hg] at hgt
       rw [hgt] at k
       have er:reason h ⟨g,is.take i⟩ m=e:=by
        unfold reason
        show (match Vbcjaj.goOn h g m with | .ok _=>0 | .error e=>e)=e
        rw [hg]
       rw [er]
       exact k.one s34 _ rfl
    ·rintro σ H' ⟨v4,v5,v6,p,g,rfl,sm,ip,G,ga⟩
     rw [List.length_map,List.take_length] at ga ip G
     rw [ga] at k
     obtain ⟨o',d',b',⟨dy,po⟩,o1,o2,o3,_⟩:=id ip
     refine ⟨_,rfl,p,_,dy,_,_,rfl,po,T.cl_Plan,T.no_Plan_minutes,rfl,_,rfl,_,rfl,M,[],hs,p,h,_,rfl,hH.same sm,ip,_,rfl,?_⟩
     have hbl:=G.bl
     have hpl4:=Wh.pl
     have fin:∀ z:Int,z=Vbcjaj.bit (Vbcjaj.whole_ h g)→(tLst (fun _ H Q=>Q [V.int 1,V.int (g.minutes:Int),V.int z] H)) [] H' (fun x H1=>tFld K (tVar 3) "beliefs" [some (.ref ln),some (.ref o),some (.ref hs),some (.ref p),v4,v5,v6] H1 fun y H2=>rCat x y H2 Q):=fun z ez=>by
      refine ⟨by show 3≤sizeLine;decide,fun L nL=>?_⟩
      have sL:=Same.new (o:=HO.lst [V.int 1,V.int (g.minutes:Int),V.int z]) nL
      refine ⟨_,rfl,p,_,dy,_,_,rfl,sL _ _ po,T.cl_Plan,T.no_Plan_beliefs,rfl,L,b',_,_,rfl,rfl,upd_same,sL _ _ o3,?_,?_⟩
      ·rw [List.length_map]
       exact small_le (by show 3 + g.beliefs.length≤1000;have:g.beliefs.length=h.props.length:=hbl;omega)
      ·refine k.one (sm.trans sL) _ ?_
       subst ez
       unfold Vbcjaj.ints
       rw [List.map_cons,List.map_cons,List.map_cons,List.map_map]
       rfl
     cases hw:Vbcjaj.whole_ h g with
     | true =>
      refine iteT ?_
      exact fin 1 (by rw [hw];rfl)
     | false =>
      refine iteF ?_
      exact fin 0 (by rw [hw];rfl)
  ·rw [decide_eq_true (show ((ns.length:Int) > 30) by omega)]
   refine iteT ?_
   refine iteT ?_
   refine wrong H (Same.refl _) ?_
   unfold runsAns
   rw [decide_eq_false hlen,Bool.false_and,if_pos rfl]
end
section
variable {P:Program} {w:World} {K:PySem.W.Frag} {mg:Str→Option Value} {base:Heap} {t:Ad}
def planAns (h:Vbcjaj.House) (n:Int):List Int:=if Vbcjaj.inside n 0 200=false then [-1] else match Vbcjaj.plan h n.toNat with
   | .plan x=>1::Vbcjaj.whole x.going.minutes::Vbcjaj.listed x.plan
   | .none=>[0]
   | .spent=>[2]
theorem plan_step (s:Vbcjaj.State) (n:Int):Vbcjaj.step s (.plan n)=(s,planAns s.house n):=by
 show (if Vbcjaj.inside n 0 200=false then Vbcjaj.no s (-1) else (s,_))=_
 unfold planAns Vbcjaj.no
 split <;> rfl
def spPlanCall (t:Ad):Sp:=fun vs H Q _=>∃ (M:List Addr) (ln:Addr) (n:Int) (h:Vbcjaj.House),vs=[.ref ln,.int n]∧LineHouse t M H ln h∧Wf h∧newInts H (planAns h n) Q
abbrev nmPlan:List Str:=["line","steps","search","outcome","plan"]
theorem scPlanCall:FnScope nmPlan ["line","steps"] (defScope s_answer_plan):=⟨rfl,rfl,rfl,by decide +kernel,rfl,by decide +kernel,by decide +kernel⟩
theorem ok_planCall (T:Tx K mg t):FnOk P w K mg base CX0 6 t.f_answer_plan t.d_answer_plan ["line","steps"] (spPlanCall t):=by
 refine T.x_answer_plan.F.ok scPlanCall (fun vs H Q E h=>?_) (fun cdv A outer s H vs Q E hr h=>?_)
 ·obtain ⟨M,ln,n,h,rfl,_⟩:=h
  rfl
 ·obtain ⟨M,ln,n,h,rfl,⟨dl,hs,sh,hln,hH⟩,Wh,k⟩:=h
  refine ⟨_,pss_cons (ps_if (pt_not (pt_val (pe_call (ok_within T) (hr.mono (by decide)) rfl T.x_within.m T.x_within.F.kp T.x_within.b .nil pass0 (pa_cons (pv 1) (pa_cons pe_int (pa_cons (pe_const rfl T.k_MOST_STEPS) pa_nil)))))) (pss_one (ps_ret (pe_lst (pa_cons (pe_const rfl T.k_OUT_OF_RANGE) pa_nil)))) pss_nil)
   (pss_cons (ps_set (i:=2) scPlanCall.nd rfl (Or.inl rfl) (pe_call (ok_find T) hr rfl T.x_find_plan.m T.x_find_plan.F.kp T.x_find_plan.b .nil pass0 (pa_cons (pe_fld (pv 0) rfl) (pa_cons (pv 1) pa_nil))))
   (pss_cons (ps_set (i:=3) scPlanCall.nd rfl (Or.inl rfl) (pe_ix ix_tup (pv 2) pe_int (fun _ _=>rfl)))
   (pss_cons (ps_if (pt_cmpR op_ne (pv 3) (pe_const rfl T.k_FOUND) (nomark _)) (pss_one (ps_ret (pe_lst (pa_cons (pv 3) pa_nil)))) pss_nil)
   (pss_cons (ps_set (i:=4) scPlanCall.nd rfl (Or.inl rfl) (pe_ix ix_tup (pv 2) pe_int (fun _ _=>rfl)))
   (pss_one (ps_ret (pe_op op_cat (pe_lst (pa_cons (pe_const rfl T.k_FOUND) (pa_cons (pe_fld (pv 4) rfl) (pa_cons (pe_callB call_len_seq rfl T.n_len PySem.boot_len (pa_cons (pe_fld (pv 4) rfl) pa_nil)) pa_nil)))) (pe_fld (pv 4) rfl)))))))),?_⟩
  refine ⟨_,rfl,n,0,200,rfl,_,rfl,?_⟩
  unfold planAns at k
  cases hin:inR n 0 200 with
  | false =>
   refine iteT ?_
   rw [show Vbcjaj.inside n 0 200=false from hin,if_pos rfl] at k
   exact ⟨by show 1≤sizeLine;decide,k.one (Same.refl _) _ rfl⟩
  | true =>
   refine iteF ?_
   rw [show Vbcjaj.inside n 0 200=true from hin,if_neg (by simp)] at k
   obtain ⟨n',rfl,hn'⟩:∃ n':Nat,n=n'∧n'≤200:=by
    unfold inR at hin
    simp at hin
    exact ⟨n.toNat,by omega,by omega⟩
   rw [Int.toNat_natCast] at k
   refine ⟨_,rfl,ln,_,dl,_,_,rfl,hln,T.cl_Line,T.no_Line_house,rfl,_,rfl,M,hs,n',h,rfl,hH,Wh,hn',fun H1 U c v s1 hU fa=>?_⟩
   refine ⟨_,rfl,U,_,_,.int c,rfl,rfl,SqT.of hU,rfl,?_⟩
   refine ⟨_,rfl,rfl,_,rfl,?_⟩
   cases hp:Vbcjaj.plan h n' with
   | none =>
    rw [hp] at fa k
    obtain ⟨rfl,rfl⟩:=fa
    refine iteT ?_
    exact ⟨_,rfl,by show 1≤sizeLine;decide,k.one s1 _ rfl⟩
   | spent =>
    rw [hp] at fa k
    obtain ⟨rfl,rfl⟩:=fa
    refine iteT ?_
    exact ⟨_,rfl,by show 1≤sizeLine;decide,k.one s1 _ rfl⟩
   | plan x =>
    rw [hp] at fa k
    obtain ⟨rfl,hxl,p,rfl,o',d',b',⟨dy,po⟩,o1,o2,o3,_⟩:=fa
    refine iteF ?_
    refine ⟨_,rfl,U,_,_,.ref p,rfl,rfl,SqT.of hU,rfl,?_⟩
    refine ⟨_,rfl,p,_,dy,_,_,rfl,po,T.cl_Plan,T.no_Plan_minutes,rfl,_,rfl,p,_,dy,_,_,rfl,po,T.cl_Plan,T.no_Plan_order,rfl,o',_,rfl,.inl (SqL.of o1),by show 3≤sizeLine;decide,fun L nL=>?_⟩
    rw [List.length_map]
    have sL:=Same.new (o:=HO.lst [V.int 1,V.int (x.going.minutes:Int),V.int (x.plan.length:Int)]) nL
    refine ⟨_,rfl,p,_,dy,_,_,rfl,sL _ _ po,T.cl_Plan,T.no_Plan_order,rfl,L,o',_,_,rfl,rfl,upd_same,sL _ _ o1,?_,?_⟩
    ·rw [List.length_map]
     exact small_le (by show 3 + x.plan.length≤1000;omega)
    ·refine k.one (s1.trans sL) _ ?_
     unfold Vbcjaj.listed Vbcjaj.ints
     rw [List.map_cons,List.map_cons,List.map_cons,List.map_map]
     rfl
end
section
variable {P:Program} {w:World} {K:PySem.W.Frag} {mg:Str→Option Value} {base:Heap} {t:Ad}
structure NewHouse (t:Ad) (H H':Hp) (p dx pa:Addr) (ps:List Nat) (ta ra ba:Addr):Prop where
 ob:H' p=some (.ins t.c_House dx (houseF pa ta ra 0 0 ba))
 ht:H' ta=some (.lst [])
 hr:H' ra=some (.lst [])
 hb:H' ba=some (.lst (nv (ps.map Vbcjaj.full)))
 nt:H ta=none
 nr:H ra=none
 nb:H ba=none
 tr:ta≠ra
 tb:ta≠ba
 rb:ra≠ba
 kp:∀ b o,H b=some o→b≠p→H' b=some o
def spHouseInit (t:Ad):Sp:=fun vs H Q _=>∃ (p dx pa:Addr) (ps:List Nat),vs=[.ref p,.ref pa]∧H p=some (.ins t.c_House dx [])∧H pa=some (.lst (nv ps))∧(∀ c∈ps,c < 7)∧ps.length≤sizeLine∧∀ H' ta ra ba,NewHouse t H H' p dx pa ps ta ra ba→Q .non H'
theorem scHouseInit:FnScope ["self","props","count"] ["self","props"] (defScope s_House_init):=⟨rfl,rfl,rfl,by decide +kernel,rfl,by decide +kernel,by decide +kernel⟩
theorem ok_houseInit (T:Tx K mg t):FnOk P w K mg base CX0 2 t.f_House_init t.d_House_init ["self","props"] (spHouseInit t):=by
 refine T.x_House_init.ok scHouseInit (fun vs H Q E h=>?_) (fun cdv A outer s H vs Q E hr h=>?_)
 ·obtain ⟨p,dx,pa,ps,rfl,_⟩:=h
  rfl
 ·obtain ⟨p,dx,pa,ps,rfl,hp,hpa,h7,hz,k⟩:=h
  refine ⟨_,pss_cons (ps_fld (pv 0) (pv 1) rfl) (pss_cons (ps_fld (pv 0) (pe_lst pa_nil) rfl) (pss_cons (ps_fld (pv 0) (pe_lst pa_nil) rfl) (pss_cons (ps_fld (pv 0) pe_int rfl) (pss_cons (ps_fld (pv 0) pe_int rfl)
   (pss_one (ps_fld (pv 0) (pe_lc (own:=[("count",2)]) rfl scHouseInit.nd (pi_list (pv 1)) (blkOk_by (show blkC ["self","props","count"] (defScope s_House_init) _ _=true by decide +kernel)) (fun _ _ _ _ _=>pg_name (i:=2) scHouseInit.nd rfl (Or.inl rfl)) (fun _ _ _ _ _=>pts_nil)
    (fun _ _ _ _ _=>pe_call (ok_allConditions T) hr rfl T.x_all_conditions.m T.x_all_conditions.F.kp T.x_all_conditions.b .nil pass0 (pa_cons (pv 2) pa_nil))) rfl)))))),?_⟩
  have npa:pa≠p:=ne_of hpa hp (fun z=>nomatch z)
  refine ⟨_,rfl,_,rfl,p,_,dx,_,rfl,hp,T.cl_House,T.no_House_props,by show 0 < 1000;decide,?_⟩
  refine ⟨Nat.zero_le _,fun ta nt=>?_⟩
  have nt0:H ta=none:=by
   cases e:H ta with
   | none=>rfl
   | some o =>
    by_cases z:ta=p
    ·rw [z,upd_same] at nt;cases nt
    ·rw [upd_ne z,e] at nt;cases nt
  have tp:ta≠p:=fun z=>by rw [z,upd_same] at nt;cases nt
  refine ⟨_,rfl,p,_,dx,_,rfl,by rw [upd_ne tp.symm,upd_same],T.cl_House,T.no_House_tricks,by show 1 < 1000;decide,?_⟩
  refine ⟨Nat.zero_le _,fun ra nr=>?_⟩
  have rp:ra≠p:=fun z=>by rw [z,upd_same] at nr;cases nr
  rw [upd_ne rp] at nr
  have rt:ra≠ta:=fun z=>by rw [z,upd_same] at nr;cases nr
  rw [upd_ne rt,upd_ne rp] at nr
  refine ⟨_,rfl,p,_,dx,_,rfl,by rw [upd_ne rp.symm,upd_same],T.cl_House,T.no_House_resets,by show 2 < 1000;decide,?_⟩
  refine ⟨_,rfl,p,_,dx,_,rfl,upd_same,T.cl_House,T.no_House_limit,by show 3 < 1000;decide,?_⟩
  refine ⟨_,rfl,p,_,dx,_,rfl,upd_same,T.cl_House,T.no_House_delay,by show 4 < 1000;decide,?_⟩
  generalize hH5:upd (upd (upd (upd (upd (upd (upd H p _) ta _) p _) ra _) p _) p _) p _=H5
  have k5:∀ b o,H b=some o→b≠p→H5 b=some o:=fun b o e hb=>by
   rw [← hH5,upd_ne hb,upd_ne hb,upd_ne hb,upd_ne (ne_of_none e nr),upd_ne hb,upd_ne (ne_of_none e nt0),upd_ne hb]
   exact e
  have p5:H5 p=some (.ins t.c_House dx [("props",.ref pa),("tricks",.ref ta),("resets",.ref ra),("limit",.int 0),("delay",.int 0)]):=by rw [← hH5,upd_same];rfl
  have t5:H5 ta=some (.lst []):=by rw [← hH5,upd_ne tp,upd_ne tp,upd_ne tp,upd_ne rt.symm,upd_ne tp,upd_same]
  have r5:H5 ra=some (.lst []):=by rw [← hH5,upd_ne rp,upd_ne rp,upd_ne rp,upd_same]
  have hpa5:=k5 _ _ hpa npa
  refine ⟨_,rfl,pa,rfl,⟨_,SqL.of hpa5⟩,fun D hD=>?_⟩
  refine lcl_map (xs:=nv ps) (fun i=>.int ((Vbcjaj.full (ps.getD i 0):Nat):Int)) (by rw [List.length_map];exact hz) hD (SqL.of hpa5) (fun i x H' hx sm R hR=>?_) (fun H6 sm e=>?_)
  ·obtain ⟨c,hc,rfl⟩:=get_map hx
   have ec:ps.getD i 0=c:=by rw [List.getD_eq_getElem?_getD,hc];rfl
   rw [ec] at hR
   refine ⟨rfl,_,rfl,c,rfl,h7 c (List.mem_of_getElem? hc),?_⟩
   rw [full_eq]
   exact hR _ (Same.refl _)
  ·rw [List.length_map,range_map ps _ (fun c=>V.int ((Vbcjaj.full c:Nat):Int)) (fun i x hx=>by rw [List.getD_eq_getElem?_getD,hx];rfl)] at e
   have pD:p≠D:=ne_of_none p5 hD
   have tD:ta≠D:=ne_of_none t5 hD
   have rD:ra≠D:=ne_of_none r5 hD
   have nD:H D=none:=by
    cases q:H D with
    | none=>rfl
    | some o=>rw [k5 D o q pD.symm] at hD;cases hD
   refine ⟨_,rfl,p,_,dx,_,rfl,sm _ _ p5,T.cl_House,T.no_House_beliefs,by show 5 < 1000;decide,?_⟩
   refine k _ ta ra D ⟨by rw [upd_same];rfl,by rw [upd_ne tp];exact sm _ _ t5,by rw [upd_ne rp];exact sm _ _ r5,?_,nt0,nr,nD,rt.symm,tD,rD,fun b o q hb=>by rw [upd_ne hb];exact sm _ _ (k5 b o q hb)⟩
   rw [upd_ne pD.symm,e]
   unfold nv
   rw [List.map_map]
   rfl
end
abbrev SRel:=List Addr→Hp→Addr→Vbcjaj.House→Vbcjaj.Stage→List Addr→Prop
def SameU (H H':Hp):Prop:=∀ b o,H b=some o→(∀ x u,o≠.frz x u)→H' b=some o
theorem SameU.of {H H':Hp} (e:Same H H'):SameU H H':=fun b o q _=>e b o q
structure Stable (SA:SRel):Prop where
 same:∀ {M:List Addr} {H H':Hp} {a:Addr} {h:Vbcjaj.House} {g:Vbcjaj.Stage} {SM:List Addr},SA M H a h g SM→SameU H H'→SA M H' a h g SM
 there:∀ {M:List Addr} {H:Hp} {a:Addr} {h:Vbcjaj.House} {g:Vbcjaj.Stage} {SM:List Addr},SA M H a h g SM→There SM H
section
variable {P:Program} {w:World} {K:PySem.W.Frag} {mg:Str→Option Value} {base:Heap} {t:Ad} {SA:SRel}
def ShowRel (SA:SRel) (M:List Addr) (H:Hp) (v:V) (SM:List Addr) (h:Vbcjaj.House):Option Vbcjaj.Stage→Prop
 | none=>v=.non∧SM=[]
 | some g=>∃ sa,v=.ref sa∧SA M H sa h g SM
structure LineAt (t:Ad) (SA:SRel) (H:Hp) (ln:Addr) (s:Vbcjaj.State) (dx hs:Addr) (v:V) (pa ta ra ba:Addr) (ts rs SM:List Addr):Prop where
 ob:H ln=some (.ins t.c_Line dx (lineF hs v))
 house:HouseAt t (ln::hs::ta::ra::SM) H hs s.house pa ta ra ba ts rs
 wf:Wf s.house
 nd:(ln::hs::ta::ra::SM).Nodup
 sh:ShowRel SA (ln::hs::ta::ra::SM) H v SM s.house s.stage
def LineSt (t:Ad) (SA:SRel) (M:List Addr) (H:Hp) (ln:Addr) (s:Vbcjaj.State):Prop:=∃ dx hs v pa ta ra ba ts rs SM,M=ln::hs::ta::ra::SM∧LineAt t SA H ln s dx hs v pa ta ra ba ts rs SM
theorem IsItem.sameU {M:List Addr} {H H':Hp} {a:Addr} {it:Vbcjaj.Item} (h:IsItem t M H a it) (e:SameU H H'):IsItem t M H' a it:=by
 obtain ⟨n,l,r,⟨dx,h0⟩,h1,h2,h3,m0,m1,m2,m3⟩:=h
 exact ⟨n,l,r,⟨dx,e _ _ h0 (fun _ _ z=>nomatch z)⟩,e _ _ h1 (fun _ _ z=>nomatch z),e _ _ h2 (fun _ _ z=>nomatch z),e _ _ h3 (fun _ _ z=>nomatch z),m0,m1,m2,m3⟩
theorem Row.sameU {M:List Addr} {H H':Hp} {as:List Addr} {its:List Vbcjaj.Item} (h:Row t M H as its) (e:SameU H H'):Row t M H' as its:=⟨h.len,fun i x it h1 h2=>(h.at_ i x it h1 h2).sameU e⟩
theorem HouseAt.sameU {M:List Addr} {H H':Hp} {a:Addr} {h:Vbcjaj.House} {pa ta ra ba:Addr} {ts rs:List Addr} (x:HouseAt t M H a h pa ta ra ba ts rs) (e:SameU H H'):HouseAt t M H' a h pa ta ra ba ts rs:=by
 obtain ⟨⟨dx,h0⟩,h1,h2,h3,h4,h5,h6,m1,m2⟩:=x
 exact ⟨⟨dx,e _ _ h0 (fun _ _ z=>nomatch z)⟩,e _ _ h1 (fun _ _ z=>nomatch z),e _ _ h2 (fun _ _ z=>nomatch z),e _ _ h3 (fun _ _ z=>nomatch z),e _ _ h4 (fun _ _ z=>nomatch z),h5.sameU e,h6.sameU e,m1,m2⟩
theorem HouseAt.same {M:List Addr} {H H':Hp} {a:Addr} {h:Vbcjaj.House} {pa ta ra ba:Addr} {ts rs:List Addr} (x:HouseAt t M H a h pa ta ra ba ts rs) (e:Same H H'):HouseAt t M H' a h pa ta ra ba ts rs:=x.sameU (.of e)
theorem LineSt.sameU {M:List Addr} {H H':Hp} {ln:Addr} {s:Vbcjaj.State} (S:Stable SA) (x:LineSt t SA M H ln s) (e:SameU H H'):LineSt t SA M H' ln s:=by
 obtain ⟨dx,hs,v,pa,ta,ra,ba,ts,rs,SM,rfl,L⟩:=x
 refine ⟨dx,hs,v,pa,ta,ra,ba,ts,rs,SM,rfl,e _ _ L.ob (fun _ _ z=>nomatch z),L.house.sameU e,L.wf,L.nd,?_⟩
 have q:=L.sh
 cases hst:s.stage with
 | none=>rw [hst] at q;exact q
 | some g =>
  rw [hst] at q
  obtain ⟨sa,rfl,q⟩:=q
  exact ⟨sa,rfl,S.same q e⟩
theorem LineSt.same {M:List Addr} {H H':Hp} {ln:Addr} {s:Vbcjaj.State} (S:Stable SA) (x:LineSt t SA M H ln s) (e:Same H H'):LineSt t SA M H' ln s:=x.sameU S (.of e)
theorem LineSt.there {M:List Addr} {H:Hp} {ln:Addr} {s:Vbcjaj.State} (S:Stable SA) (x:LineSt t SA M H ln s):There M H:=by
 obtain ⟨dx,hs,v,pa,ta,ra,ba,ts,rs,SM,rfl,L⟩:=x
 obtain ⟨⟨dh,h0⟩,h1,h2,h3,_⟩:=L.house
 intro m hm
 rcases List.mem_cons.mp hm with rfl | hm
 ·exact ⟨_,L.ob⟩
 rcases List.mem_cons.mp hm with rfl | hm
 ·exact ⟨_,h0⟩
 rcases List.mem_cons.mp hm with rfl | hm
 ·exact ⟨_,h2⟩
 rcases List.mem_cons.mp hm with rfl | hm
 ·exact ⟨_,h3⟩
 have q:=L.sh
 cases hst:s.stage with
 | none =>
  rw [hst] at q
  rw [q.2] at hm
  cases hm
 | some g =>
  rw [hst] at q
  obtain ⟨sa,rfl,q⟩:=q
  exact S.there q m hm
theorem LineSt.house {M:List Addr} {H:Hp} {ln:Addr} {s:Vbcjaj.State} (x:LineSt t SA M H ln s):LineHouse t M H ln s.house∧Wf s.house:=by
 obtain ⟨dx,hs,v,pa,ta,ra,ba,ts,rs,SM,rfl,L⟩:=x
 exact ⟨⟨dx,hs,v,L.ob,pa,ta,ra,ba,ts,rs,L.house⟩,L.wf⟩
def newSt (t:Ad) (SA:SRel) (M:List Addr) (H:Hp) (ln:Addr) (r:Vbcjaj.State × List Int) (Q:VK):Prop :=
 ∀ H' M' D,LineSt t SA M' H' ln r.1→Kp M H H'→(∀ m∈M',m∈M∨H m=none)→H D=none→D∉M'→H' D=some (.lst (r.2.map V.int))→Q (.ref D) H'
theorem newSt.stay {M:List Addr} {H:Hp} {ln:Addr} {s:Vbcjaj.State} {ans:List Int} {Q:VK} (S:Stable SA) (x:LineSt t SA M H ln s) (k:newSt t SA M H ln (s,ans) Q):newInts H ans Q :=
 fun H' D e nD hD=>k H' M D (x.same S e) (Kp.same e) (fun _ hm=>.inl hm) nD ((x.there S).not nD) hD
theorem ints_nats {ns:List Int} (h:∀ x∈ns,0≤x):ns.map V.int=nv (Vbcjaj.nats ns):=by
 unfold nv Vbcjaj.nats
 rw [List.map_map]
 refine List.map_congr_left fun x hx=>?_
 show V.int x=V.int ((x.toNat:Nat):Int)
 have:=h x hx
 congr 1
 omega
theorem newHouse_wf {ps:List Nat} (h1:ps.length≤4) (h2:∀ p∈ps,2≤p∧p≤6):Wf (Vbcjaj.newHouse ps):=by
 refine ⟨h1,h2,Nat.zero_le _,Nat.zero_le _,(fun _ z=>nomatch z),(fun _ z=>nomatch z),by show (ps.map Vbcjaj.full).length=ps.length;rw [List.length_map],fun x hx=>?_,Nat.zero_le _,Nat.zero_le _⟩
 obtain ⟨p,hp,rfl⟩:=List.mem_map.mp hx
 have hp6:=(h2 p hp).2
 unfold Vbcjaj.full
 have:2 ^ p≤2 ^ 6:=Nat.pow_le_pow_right (by decide) hp6
 have:(2:Nat) ^ 6=64:=by decide
 have:1≤2 ^ p:=Nat.one_le_two_pow
 omega
def spProps (t:Ad) (SA:SRel):Sp:=fun vs H Q _=>∃ (M:List Addr) (ln l:Addr) (s:Vbcjaj.State) (ns:List Int),vs=[.ref ln,.ref l]∧LineSt t SA M H ln s∧H l=some (.lst (ns.map V.int))∧l∉M∧ns.length≤1000∧newSt t SA M H ln (Vbcjaj.step s (.props ns)) Q
theorem scProps:FnScope ["line","props"] ["line","props"] (defScope s_answer_props):=⟨rfl,rfl,rfl,by decide +kernel,rfl,by decide +kernel,by decide +kernel⟩
theorem ok_props (T:Tx K mg t) (S:Stable SA):FnOk P w K mg base CX0 4 t.f_answer_props t.d_answer_props ["line","props"] (spProps t SA):=by
 refine T.x_answer_props.F.ok scProps (fun vs H Q E h=>?_) (fun cdv A outer s H vs Q E hr h=>?_)
 ·obtain ⟨M,ln,l,s,ns,rfl,_⟩:=h
  rfl
 ·obtain ⟨M,ln,l,st,ns,rfl,LS,hl,lM,hz,k⟩:=h
  refine ⟨_,pss_cons (ps_if (PW.pt (pw_or (pt_not (pt_val (pe_call (ok_within T) (hr.mono (by decide)) rfl T.x_within.m T.x_within.F.kp T.x_within.b .nil pass0 (pa_cons (pe_callB call_len_seq rfl T.n_len PySem.boot_len (pa_cons (pv 1) pa_nil)) (pa_cons pe_int (pa_cons (pe_const rfl T.k_MOST_PROPS) pa_nil))))))
    (pw_or1 (pt_not (pt_val (pe_call (ok_allWithin T) (hr.mono (by decide)) rfl T.x_all_within.m T.x_all_within.F.kp T.x_all_within.b .nil pass0 (pa_cons (pv 1) (pa_cons (pe_const rfl T.k_LEAST_CONDITIONS) (pa_cons (pe_const rfl T.k_MOST_CONDITIONS) pa_nil))))))))) (pss_one (ps_ret (pe_lst (pa_cons (pe_const rfl T.k_WRONG_LIST) pa_nil)))) pss_nil)
   (pss_cons (ps_if (pt_cmp (pc_notN (pe_fld (pv 0) rfl))) (pss_one (ps_ret (pe_lst (pa_cons (pe_const rfl T.k_SHOW_ON_OR_OFF) pa_nil)))) pss_nil)
   (pss_cons (ps_fld (pv 0) (pe_make T.mk_House (ok_houseInit T) hr rfl T.mg_House T.b_House_init .nil pass0 (pa_cons (pv 1) pa_nil)) rfl)
   (pss_one (ps_ret (pe_lst (pa_cons (pe_callB call_len_seq rfl T.n_len PySem.boot_len (pa_cons (pv 1) pa_nil)) pa_nil)))))),?_⟩
  have hz2:ns.length≤sizeLine:=small_le hz
  have wrong:∀ H1 (c:Int),Same H H1→Vbcjaj.step st (.props ns)=(st,[c])→tRet (tLst (tCons (tC (.int c)) tNil)) { nx:=fun _ H'=>Q .non H',rt:=Q } [some (.ref ln),some (.ref l)] H1:=fun H1 c s1 e=>by
   rw [e] at k
   exact ⟨by show 1≤sizeLine;decide,(k.stay S LS).one s1 _ rfl⟩
  have estep:Vbcjaj.step st (.props ns)=if (decide (1≤ns.length∧ns.length≤4) && ns.all fun x=>Vbcjaj.inside x 2 6)=false then Vbcjaj.no st (-2) else Vbcjaj.offStage st (⟨Vbcjaj.newHouse (Vbcjaj.nats ns),none⟩,[Vbcjaj.whole ns.length]):=rfl
  refine ⟨_,rfl,l,_,rfl,.inl (SqL.of hl),_,1,4,rfl,_,rfl,?_⟩
  rw [List.length_map]
  have e14:inR (ns.length:Int) 1 4=decide (1≤ns.length∧ns.length≤4):=by
   unfold inR
   rw [Bool.eq_iff_iff]
   simp
   omega
  rw [e14]
  cases hlen:decide (1≤ns.length∧ns.length≤4) with
  | false =>
   refine iteT ?_
   refine iteT ?_
   refine wrong H _ (Same.refl _) ?_
   rw [estep,hlen,Bool.false_and,if_pos rfl]
   rfl
  | true =>
   refine iteF ?_
   refine ⟨_,rfl,l,ns,2,6,rfl,SqL.of hl,hz2,fun H1 s1=>⟨_,rfl,?_⟩⟩
   cases hall:ns.all fun n=>inR n 2 6 with
   | false =>
    refine iteT ?_
    refine wrong H1 _ s1 ?_
    rw [estep,show (ns.all fun x=>Vbcjaj.inside x 2 6)=false from hall,Bool.and_false,if_pos rfl]
    rfl
   | true =>
    refine iteF ?_
    have hl4:1≤ns.length∧ns.length≤4:=of_decide_eq_true hlen
    have e2:Vbcjaj.step st (.props ns)=Vbcjaj.offStage st (⟨Vbcjaj.newHouse (Vbcjaj.nats ns),none⟩,[Vbcjaj.whole ns.length]):=by
     rw [estep,hlen,show (ns.all fun x=>Vbcjaj.inside x 2 6)=true from hall,if_neg (by simp)]
    have LS1:=LS.same S s1
    obtain ⟨dx,hs,v,pa,ta,ra,ba,ts,rs,SM,rfl,L⟩:=id LS1
    refine ⟨_,rfl,ln,_,dx,_,_,rfl,L.ob,T.cl_Line,T.no_Line_show,rfl,_,rfl,?_⟩
    have hsh:=L.sh
    cases hst:st.stage with
    | some g =>
     rw [hst] at hsh
     obtain ⟨sa,rfl,_⟩:=hsh
     refine iteT ?_
     refine wrong H1 _ s1 ?_
     rw [e2]
     unfold Vbcjaj.offStage
     rw [hst]
     rfl
    | none =>
     rw [hst] at hsh
     obtain ⟨rfl,rfl⟩:=hsh
     refine iteF ?_
     have hr26:∀ x∈ns,2≤x∧x≤6:=fun x hx=>by
      have:=List.all_eq_true.mp hall x hx
      unfold inR at this
      simpa using this
     have eV:=ints_nats fun x hx=>by have:=hr26 x hx;omega
     have nlen:(Vbcjaj.nats ns).length=ns.length:=List.length_map _
     have n26:∀ p∈Vbcjaj.nats ns,2≤p∧p≤6:=fun p hp=>by
      obtain ⟨x,hx,rfl⟩:=List.mem_map.mp hp
      have:=hr26 x hx
      omega
     have hl1:=s1 _ _ hl
     rw [eV] at hl1
     refine ⟨_,rfl,fun x dx' nx nd ne=>?_⟩
     have sm2:Same H1 (upd (upd H1 dx' (.own x)) x (.ins t.c_House dx' [])):=fun b o q=>by rw [upd_ne (ne_of_none q nx),upd_ne (ne_of_none q nd)];exact q
     refine ⟨x,dx',l,Vbcjaj.nats ns,rfl,upd_same,sm2 _ _ hl1,fun c hc=>by have:=n26 c hc;omega,by rw [nlen];exact hz2,fun H3 ta' ra' ba' NH=>⟨rfl,?_⟩⟩
     have k3:Same H1 H3:=fun b o q=>NH.kp b o (sm2 b o q) (ne_of_none q nx)
     have nln:ln≠x:=ne_of_none L.ob nx
     refine ⟨_,rfl,ln,_,dx,_,rfl,k3 _ _ L.ob,T.cl_Line,T.no_Line_house,by show 2 < 1000;decide,?_⟩
     have lln:l≠ln:=fun z=>lM (by rw [z];exact List.mem_cons_self)
     refine ⟨_,rfl,l,_,rfl,.inl (SqL.of (by rw [upd_ne lln];exact k3 _ _ hl1)),by show 1≤sizeLine;decide,fun D nD=>?_⟩
     have Dln:D≠ln:=fun z=>by rw [z,upd_same] at nD;cases nD
     have nD3:H3 D=none:=by rw [upd_ne Dln] at nD;exact nD
     have s13:Same H H3:=s1.trans k3
     have fresh2:∀ {c:Addr},upd (upd H1 dx' (.own x)) x (.ins t.c_House dx' []) c=none→H1 c=none:=fun {c} hc=>sm2.free hc
     have Dx:x≠D:=ne_of_none NH.ob nD3
     have Dt:ta'≠D:=ne_of_none NH.ht nD3
     have Dr:ra'≠D:=ne_of_none NH.hr nD3
     have Db:ba'≠D:=ne_of_none NH.hb nD3
     have xt:ta'≠x:=fun z=>by have q:=NH.nt;rw [z,upd_same] at q;cases q
     have xr:ra'≠x:=fun z=>by have q:=NH.nr;rw [z,upd_same] at q;cases q
     have xb:ba'≠x:=fun z=>by have q:=NH.nb;rw [z,upd_same] at q;cases q
     have lt:ln≠ta':=ne_of_none L.ob (fresh2 NH.nt)
     have lr:ln≠ra':=ne_of_none L.ob (fresh2 NH.nr)
     have lb:ln≠ba':=ne_of_none L.ob (fresh2 NH.nb)
     have fin:∀ b o,H3 b=some o→b≠ln→upd (upd H3 ln (.ins t.c_Line dx (putF "house" (.ref x) (lineF hs .non)))) D (.lst [V.int ((nv (Vbcjaj.nats ns)).length:Int)]) b=some o:=fun b o q hb=>by
      rw [upd_ne (ne_of_none q nD3),upd_ne hb]
      exact q
     rw [e2] at k
     unfold Vbcjaj.offStage at k
     rw [hst] at k
     refine k _ [ln,x,ta',ra'] D ⟨dx,x,.non,l,ta',ra',ba',[],[],[],rfl,?_⟩ ?_ ?_ (s13.free nD3) ?_ ?_
     ·refine ⟨by rw [upd_ne Dln.symm,upd_same];rfl,⟨⟨dx',fin _ _ NH.ob nln.symm⟩,fin _ _ (k3 _ _ hl1) lln,fin _ _ NH.ht lt.symm,fin _ _ NH.hr lr.symm,fin _ _ NH.hb lb.symm,⟨rfl,fun i y it h1=>by simp at h1⟩,⟨rfl,fun i y it h1=>by simp at h1⟩,?_,?_⟩,newHouse_wf (by rw [nlen];exact hl4.2) n26,?_,rfl,rfl⟩
      ·simp only [List.mem_cons,List.not_mem_nil,or_false,not_or]
       exact ⟨lln,ne_of_none hl1 nx,ne_of_none hl1 (fresh2 NH.nt),ne_of_none hl1 (fresh2 NH.nr)⟩
      ·simp only [List.mem_cons,List.not_mem_nil,or_false,not_or]
       exact ⟨lb.symm,xb,NH.tb.symm,NH.rb.symm⟩
      ·simp only [List.nodup_cons,List.mem_cons,List.not_mem_nil,or_false,not_or,not_false_eq_true,List.nodup_nil,and_true]
       exact ⟨⟨nln,lt,lr⟩,⟨xt.symm,xr.symm⟩,NH.tr⟩
     ·intro b o q hb
      exact fin _ _ (s13 _ _ q) fun z=>hb (by rw [z];exact List.mem_cons_self)
     ·intro m hm
      simp only [List.mem_cons,List.not_mem_nil,or_false] at hm
      rcases hm with rfl | rfl | rfl | rfl
      ·exact .inl List.mem_cons_self
      ·exact .inr (s1.free nx)
      ·exact .inr (s1.free (fresh2 NH.nt))
      ·exact .inr (s1.free (fresh2 NH.nr))
     ·simp only [List.mem_cons,List.not_mem_nil,or_false,not_or]
      exact ⟨Dln,Dx.symm,Dt.symm,Dr.symm⟩
     ·rw [upd_same,List.length_map,nlen]
      rfl
end
theorem mem_zip_left {α β:Type}:∀ {l:List α} {m:List β} {x:α},x∈l→l.length=m.length→∃ y,(x,y)∈l.zip m
 | [],_,_,h,_=>nomatch h
 | _::_,[],_,_,e=>by simp at e
 | a::l,b::m,x,h,e=>by
  rcases List.mem_cons.mp h with rfl | h
  ·exact ⟨b,List.mem_cons_self⟩
  ·obtain ⟨y,hy⟩:=mem_zip_left h (by simpa using e)
   exact ⟨y,List.mem_cons_of_mem _ hy⟩
theorem sets_good {ps:List Nat} {lo:Int} {ns:List Int} (h:setsB ps lo ns=true) (h0:0≤lo) (h6:∀ p∈ps,2≤p∧p≤6):ns.length=ps.length∧(∀ x∈ns,0≤x)∧Few (Vbcjaj.nats ns):=by
 unfold setsB at h
 rw [Bool.and_eq_true] at h
 have hl:ns.length=ps.length:=by simpa using h.1
 have hx:∀ x∈ns,0≤x∧x < 64:=fun x hx=>by
  obtain ⟨p,hp⟩:=mem_zip_left hx hl
  have h1:=List.all_eq_true.mp h.2 _ hp
  unfold Vbcjaj.inside Vbcjaj.whole at h1
  simp at h1
  have hp6:=(h6 p (List.of_mem_zip hp).2).2
  have:2 ^ p≤2 ^ 6:=Nat.pow_le_pow_right (by decide) hp6
  have e6:(2:Nat) ^ 6=64:=by decide
  have h2:=h1.2
  unfold Vbcjaj.full at h2
  omega
 refine ⟨hl,fun x h=>(hx x h).1,fun y hy=>?_⟩
 obtain ⟨x,h,rfl⟩:=List.mem_map.mp hy
 have:=hx x h
 omega
section
variable {P:Program} {w:World} {K:PySem.W.Frag} {mg:Str→Option Value} {base:Heap} {t:Ad} {SA:SRel}
theorem Row.snoc {M:List Addr} {H:Hp} {as:List Addr} {its:List Vbcjaj.Item} {a:Addr} {it:Vbcjaj.Item} (h:Row t M H as its) (p:IsItem t M H a it):Row t M H (as++[a]) (its++[it]):=by
 refine ⟨by rw [List.length_append,List.length_append,h.len];rfl,fun i b y h1 h2=>?_⟩
 by_cases hi:i < as.length
 ·rw [List.getElem?_append_left hi] at h1
  rw [List.getElem?_append_left (by rw [← h.len];exact hi)] at h2
  exact h.at_ i b y h1 h2
 ·rw [List.getElem?_append_right (by omega)] at h1
  rw [List.getElem?_append_right (by rw [← h.len];omega),← h.len] at h2
  cases hj:i - as.length with
  | zero =>
   rw [hj] at h1 h2
   cases h1
   cases h2
   exact p
  | succ n =>
   rw [hj] at h1
   simp at h1
theorem item_made {M:List Addr} {H:Hp} {it:Vbcjaj.Item} {n l r p dx:Addr} (np:H p=none) (nd:H dx=none) (ne:dx≠p) (th:There M H) (hn:H n=some (.lst (nv it.need))) (hl:H l=some (.lst (nv it.leave))) (hr:H r=some (.lst (nv it.rescue))) (mn:n∉M) (ml:l∉M) (mr:r∉M) :
  Same H (upd (upd (upd H dx (.own p)) p (.ins t.c_Item dx [])) p (.ins t.c_Item dx (itemF it.minutes it.wait n l r)))∧IsItem t M (upd (upd (upd H dx (.own p)) p (.ins t.c_Item dx [])) p (.ins t.c_Item dx (itemF it.minutes it.wait n l r))) p it:=by
 rw [upd_upd]
 have sm:Same H (upd (upd H dx (.own p)) p (.ins t.c_Item dx (itemF it.minutes it.wait n l r))):=fun c u e=>by
  rw [upd_ne (ne_of_none e np),upd_ne (ne_of_none e nd)]
  exact e
 exact ⟨sm,n,l,r,⟨dx,upd_same⟩,sm _ _ hn,sm _ _ hl,sm _ _ hr,th.not np,mn,ml,mr⟩
def spTrick (t:Ad) (SA:SRel):Sp:=fun vs H Q _=>∃ (M:List Addr) (ln n l r:Addr) (s:Vbcjaj.State) (m wt:Int) (ns ls rs:List Int),vs=[.ref ln,.int m,.int wt,.ref n,.ref l,.ref r]∧LineSt t SA M H ln s∧H n=some (.lst (ns.map V.int))∧H l=some (.lst (ls.map V.int))∧H r=some (.lst (rs.map V.int))∧n∉M∧l∉M∧r∉M∧ns.length≤1000∧ls.length≤1000∧rs.length≤1000∧newSt t SA M H ln (Vbcjaj.step s (.trick m wt ns ls rs)) Q
abbrev nmTrick:List Str:=["line","minutes","wait","need","leave","rescue","house"]
theorem scTrick:FnScope nmTrick ["line","minutes","wait","need","leave","rescue"] (defScope s_answer_trick):=⟨rfl,rfl,rfl,by decide +kernel,rfl,by decide +kernel,by decide +kernel⟩
theorem ok_trick (T:Tx K mg t) (S:Stable SA):FnOk P w K mg base CX0 3 t.f_answer_trick t.d_answer_trick ["line","minutes","wait","need","leave","rescue"] (spTrick t SA):=by
 refine T.x_answer_trick.F.ok scTrick (fun vs H Q E h=>?_) (fun cdv A outer s H vs Q E hr h=>?_)
 ·obtain ⟨M,ln,n,l,r,s,m,wt,ns,ls,rs,rfl,_⟩:=h
  rfl
 ·obtain ⟨M,ln,n,l,r,st,m,wt,ns,ls,rl,rfl,LS,hn,hl,hrr,mn,ml,mr,zn,zl,zr,k⟩:=h
  refine ⟨_,pss_cons (ps_set (i:=6) scTrick.nd rfl (Or.inl rfl) (pe_fld (pv 0) rfl))
   (pss_cons (ps_if (PW.pt (pw_or (pt_not (pt_val (pe_call (ok_within T) (hr.mono (by decide)) rfl T.x_within.m T.x_within.F.kp T.x_within.b .nil pass0 (pa_cons (pv 1) (pa_cons pe_int (pa_cons (pe_const rfl T.k_MOST_MINUTES) pa_nil)))))) (pw_or1 (pt_not (pt_val (pe_call (ok_within T) (hr.mono (by decide)) rfl T.x_within.m T.x_within.F.kp T.x_within.b .nil pass0 (pa_cons (pv 2) (pa_cons pe_int (pa_cons (pe_const rfl T.k_MOST_WAIT) pa_nil))))))))) (pss_one (ps_ret (pe_lst (pa_cons (pe_const rfl T.k_OUT_OF_RANGE) pa_nil)))) pss_nil)
   (pss_cons (ps_if (PW.pt (pw_or (pt_not (pt_val (pe_call (ok_areSets T) hr rfl T.x_are_sets.m T.x_are_sets.F.kp T.x_are_sets.b .nil pass0 (pa_cons (pv 3) (pa_cons (pe_fld (pv 6) rfl) (pa_cons pe_int pa_nil)))))) (pw_or1 (pt_not (pt_val (pe_call (ok_areSets T) hr rfl T.x_are_sets.m T.x_are_sets.F.kp T.x_are_sets.b .nil pass0 (pa_cons (pv 4) (pa_cons (pe_fld (pv 6) rfl) (pa_cons pe_int pa_nil))))))))) (pss_one (ps_ret (pe_lst (pa_cons (pe_const rfl T.k_WRONG_LIST) pa_nil)))) pss_nil)
   (pss_cons (ps_if (pt_not (pt_val (pe_call (ok_areSets T) hr rfl T.x_are_sets.m T.x_are_sets.F.kp T.x_are_sets.b .nil pass0 (pa_cons (pv 5) (pa_cons (pe_fld (pv 6) rfl) (pa_cons pe_int pa_nil)))))) (pss_one (ps_ret (pe_lst (pa_cons (pe_const rfl T.k_WRONG_LIST) pa_nil)))) pss_nil)
   (pss_cons (ps_if (pt_cmp (pc_notN (pe_fld (pv 0) rfl))) (pss_one (ps_ret (pe_lst (pa_cons (pe_const rfl T.k_SHOW_ON_OR_OFF) pa_nil)))) pss_nil)
   (pss_cons (ps_if (pt_cmpR op_eq (pe_callB call_len_seq rfl T.n_len PySem.boot_len (pa_cons (pe_fld (pv 6) rfl) pa_nil)) (pe_const rfl T.k_MOST_TRICKS) (nomark _)) (pss_one (ps_ret (pe_lst (pa_cons (pe_const rfl T.k_FULL) pa_nil)))) pss_nil)
   (pss_cons (ps_expr (pe_bm PySem.F.plainAttrs_list PySem.F.slot_list_append PySem.F.type_list_append mt_append (pe_fld (pv 6) rfl) (pa_cons (pe_make T.mk_Item (ok_itemInit T) hr rfl T.mg_Item T.b_Item_init .nil pass0 (pa_cons (pv 1) (pa_cons (pv 2) (pa_cons (pv 3) (pa_cons (pv 4) (pa_cons (pv 5) pa_nil)))))) pa_nil)))
   (pss_one (ps_ret (pe_lst (pa_cons (pe_op op_sub (pe_callB call_len_seq rfl T.n_len PySem.boot_len (pa_cons (pe_fld (pv 6) rfl) pa_nil)) pe_int) pa_nil)))))))))),?_⟩
  have LS0:=LS
  obtain ⟨dx,hs,v,pa,ta,ra,ba,ts,rs,SM,rfl,L⟩:=LS
  have wrong:∀ H1 (c:Int),Same H H1→Vbcjaj.step st (.trick m wt ns ls rl)=(st,[c])→tRet (tLst (tCons (tC (.int c)) tNil)) { nx:=fun _ H'=>Q .non H',rt:=Q } [some (.ref ln),some (.int m),some (.int wt),some (.ref n),some (.ref l),some (.ref r),some (.ref hs)] H1:=fun H1 c s1 e=>by
   rw [e] at k
   exact ⟨by show 1≤sizeLine;decide,(k.stay S LS0).one s1 _ rfl⟩
  have estep:Vbcjaj.step st (.trick m wt ns ls rl)=if (inR m 1 60 && inR wt 0 20)=false then Vbcjaj.no st (-1) else if (setsB st.house.props 1 ns && (setsB st.house.props 0 ls && setsB st.house.props 0 rl))=false then Vbcjaj.no st (-2) else Vbcjaj.offStage st (
   if 8≤st.house.tricks.length then Vbcjaj.no st (-7) else ({ st with house:={ st.house with tricks:=st.house.tricks++[⟨m.toNat,wt.toNat,Vbcjaj.nats ns,Vbcjaj.nats ls,Vbcjaj.nats rl⟩] } },[Vbcjaj.whole st.house.tricks.length])):=rfl
  obtain ⟨⟨dh,h0⟩,h1,h2,h3,h4,tr,rr,mp,mb⟩:=L.house
  have h67:∀ p∈st.house.props,p < 7:=fun p hp=>by have:=(L.wf.pc p hp).2;omega
  have z4:∀ {x:Nat},x≤1000→x≤sizeLine:=fun h=>small_le h
  refine ⟨_,rfl,ln,_,dx,_,_,rfl,L.ob,T.cl_Line,T.no_Line_house,rfl,?_⟩
  refine ⟨_,rfl,m,1,60,rfl,_,rfl,?_⟩
  cases c1:inR m 1 60 with
  | false =>
   refine iteT ?_
   refine iteT ?_
   exact wrong H _ (Same.refl _) (by rw [estep,c1,Bool.false_and,if_pos rfl];rfl)
  | true =>
   refine iteF ?_
   refine ⟨_,rfl,wt,0,20,rfl,_,rfl,?_⟩
   cases c2:inR wt 0 20 with
   | false =>
    refine iteT ?_
    exact wrong H _ (Same.refl _) (by rw [estep,c1,c2,Bool.and_false,if_pos rfl];rfl)
   | true =>
    refine iteF ?_
    have e1:=estep
    rw [c1,c2,if_neg (by simp)] at e1
    refine ⟨_,rfl,_,rfl,hs,_,dh,_,_,rfl,h0,T.cl_House,T.no_House_props,rfl,n,pa,ns,st.house.props,1,rfl,SqL.of hn,SqL.of h1,z4 zn,h67,fun H1 s1=>⟨_,rfl,?_⟩⟩
    cases c3:setsB st.house.props 1 ns with
    | false =>
     refine iteT ?_
     refine iteT ?_
     exact wrong H1 _ s1 (by rw [e1,c3,Bool.false_and,if_pos rfl];rfl)
    | true =>
     refine iteF ?_
     refine ⟨_,rfl,_,rfl,hs,_,dh,_,_,rfl,s1 _ _ h0,T.cl_House,T.no_House_props,rfl,l,pa,ls,st.house.props,0,rfl,SqL.of (s1 _ _ hl),SqL.of (s1 _ _ h1),z4 zl,h67,fun H2 s2=>⟨_,rfl,?_⟩⟩
     have s12:=s1.trans s2
     cases c4:setsB st.house.props 0 ls with
     | false =>
      refine iteT ?_
      exact wrong H2 _ s12 (by rw [e1,c3,c4,Bool.false_and,Bool.and_false,if_pos rfl];rfl)
     | true =>
      refine iteF ?_
      refine ⟨_,rfl,_,rfl,hs,_,dh,_,_,rfl,s12 _ _ h0,T.cl_House,T.no_House_props,rfl,r,pa,rl,st.house.props,0,rfl,SqL.of (s12 _ _ hrr),SqL.of (s12 _ _ h1),z4 zr,h67,fun H3 s3=>⟨_,rfl,?_⟩⟩
      have s13:=s12.trans s3
      cases c5:setsB st.house.props 0 rl with
      | false =>
       refine iteT ?_
       exact wrong H3 _ s13 (by rw [e1,c3,c4,c5,Bool.and_false,Bool.and_false,if_pos rfl];rfl)
      | true =>
       refine iteF ?_
       rw [c3,c4,c5,if_neg (by simp)] at e1
       refine ⟨_,rfl,ln,_,dx,_,_,rfl,s13 _ _ L.ob,T.cl_Line,T.no_Line_show,rfl,_,rfl,?_⟩
       have hsh:=L.sh
       cases hst:st.stage with
       | some g =>
        rw [hst] at hsh
        obtain ⟨sa,rfl,_⟩:=hsh
        refine iteT ?_
        refine wrong H3 _ s13 ?_
        rw [e1]
        unfold Vbcjaj.offStage
        rw [hst]
        rfl
       | none =>
        rw [hst] at hsh
        obtain ⟨rfl,rfl⟩:=hsh
        refine iteF ?_
        unfold Vbcjaj.offStage at e1
        rw [hst] at e1
        dsimp only at e1
        have tsl:ts.length=st.house.tricks.length:=by rw [tr.len,List.length_map]
        have htl:=L.wf.tl
        refine ⟨_,rfl,hs,_,dh,_,_,rfl,s13 _ _ h0,T.cl_House,T.no_House_tricks,rfl,ta,_,rfl,.inl (SqL.of (s13 _ _ h2)),rfl,_,rfl,?_⟩
        rw [List.length_map]
        show if decide (V.int (ts.length:Int)=V.int ((8:Nat):Int))=true then _ else _
        rw [dec_int_eq]
        refine ifB (fun z=>?_) (fun z=>?_)
        ·have z':ts.length=8:=of_decide_eq_true z
         exact wrong H3 _ s13 (by rw [e1,if_pos (by omega)];rfl)
        ·have z':¬ ts.length=8:=of_decide_eq_false z
         rw [if_neg (by omega)] at e1
         rw [e1] at k
         obtain ⟨g1,g2,g3⟩:=sets_good c3 (by decide) L.wf.pc
         obtain ⟨g4,g5,g6⟩:=sets_good c4 (by decide) L.wf.pc
         obtain ⟨g7,g8,g9⟩:=sets_good c5 (by decide) L.wf.pc
         have m60:1≤m∧m≤60:=by unfold inR at c1;simpa using c1
         have w20:0≤wt∧wt≤20:=by unfold inR at c2;simpa using c2
         have em:m=((m.toNat:Nat):Int):=by omega
         have ew:wt=((wt.toNat:Nat):Int):=by omega
         have hn3:=s13 _ _ hn
         have hl3:=s13 _ _ hl
         have hr3:=s13 _ _ hrr
         rw [ints_nats g2] at hn3
         rw [ints_nats g5] at hl3
         rw [ints_nats g8] at hr3
         refine ⟨_,rfl,hs,_,dh,_,_,rfl,s13 _ _ h0,T.cl_House,T.no_House_tricks,rfl,Or.inl ⟨rfl,_,SqL.of (s13 _ _ h2)⟩,_,rfl,_,rfl,_,rfl,_,rfl,_,rfl,fun x dx' nx nd ne=>?_⟩
         refine ⟨x,dx',n,l,r,m.toNat,wt.toNat,by rw [← em,← ew];rfl,upd_same,rfl,?_⟩
         have th3:=(LS0.there S).same s13
         obtain ⟨s4,ii⟩:=item_made (t:=t) (M:=[ln,hs,ta,ra]) (it:=ofTrick ⟨m.toNat,wt.toNat,Vbcjaj.nats ns,Vbcjaj.nats ls,Vbcjaj.nats rl⟩) (n:=n) (l:=l) (r:=r) nx nd ne th3 hn3 hl3 hr3 mn ml mr
         have gen:∀ H4,Same H3 H4→IsItem t [ln,hs,ta,ra] H4 x (ofTrick ⟨m.toNat,wt.toNat,Vbcjaj.nats ns,Vbcjaj.nats ls,Vbcjaj.nats rl⟩)→(tSeq (tDrop (fun _ _ Q=>Q .non (upd H4 ta (.lst (ts.map V.ref++[.ref x]))))) (tRet (tLst (tCons (tOp (rI0 fun i j=>.int (i - j)) (tCB (fun xs H Q=>∃ p ys,xs=[.ref p]∧(SqL K H p ys∨SqT K H p ys)∧Q (.int ys.length) H) (tCons (tFld K (tVar 6) "tricks") tNil)) (tC (.int 1))) tNil)))) { nx:=fun _ H'=>Q .non H',rt:=Q } [some (.ref ln),some (.int m),some (.int wt),some (.ref n),some (.ref l),some (.ref r),some (.ref hs)] H4:=by
          intro H4 s4 ii
          have nodup:=L.nd
          simp only [List.nodup_cons,List.mem_cons,List.not_mem_nil,or_false,not_or,not_false_eq_true,List.nodup_nil,and_true] at nodup
          obtain ⟨⟨q1,q2,q3⟩,⟨q4,q5⟩,q6⟩:=nodup
          have s14:=s13.trans s4
          refine ⟨_,rfl,hs,_,dh,_,_,rfl,by rw [upd_ne q4];exact s14 _ _ h0,T.cl_House,T.no_House_tricks,rfl,ta,_,rfl,.inl (SqL.of upd_same),_,_,rfl,rfl,by show 1≤sizeLine;decide,fun D nD=>?_⟩
          have Dt:D≠ta:=fun z=>by rw [z,upd_same] at nD;cases nD
          have nD4:H4 D=none:=by rw [upd_ne Dt] at nD;exact nD
          have nDH:H D=none:=s14.free nD4
          have kp:Kp [ln,hs,ta,ra] H4 (upd (upd H4 ta (.lst (ts.map V.ref++[.ref x]))) D (.lst [V.int (((ts.map V.ref++[V.ref x]).length:Int) - 1)])):=fun b o e hb=>by
           rw [upd_ne (ne_of_none e nD4),upd_ne (fun z=>hb (by rw [z];simp))]
           exact e
          have fin:∀ b o,H b=some o→b≠ta→upd (upd H4 ta (.lst (ts.map V.ref++[.ref x]))) D (.lst [V.int (((ts.map V.ref++[V.ref x]).length:Int) - 1)]) b=some o:=fun b o e hb=>by
           rw [upd_ne (ne_of_none (s14 _ _ e) nD4),upd_ne hb]
           exact s14 _ _ e
          have tr':Row t [ln,hs,ta,ra] (upd (upd H4 ta (.lst (ts.map V.ref++[.ref x]))) D (.lst [V.int (((ts.map V.ref++[V.ref x]).length:Int) - 1)])) (ts++[x]) ((st.house.tricks++[(⟨m.toNat,wt.toNat,Vbcjaj.nats ns,Vbcjaj.nats ls,Vbcjaj.nats rl⟩:Vbcjaj.Trick)]).map ofTrick):=by
           rw [List.map_append]
           exact ((tr.mono fun b o e _=>s14 b o e).snoc ii).mono kp
          have rr':=rr.mono (H':=upd (upd H4 ta (.lst (ts.map V.ref++[.ref x]))) D (.lst [V.int (((ts.map V.ref++[V.ref x]).length:Int) - 1)])) fun b o e hb=>fin b o e fun z=>hb (by rw [z];simp)
          have W:=L.wf
          refine k _ [ln,hs,ta,ra] D ⟨dx,hs,.non,pa,ta,ra,ba,ts++[x],rs,[],rfl,fin _ _ L.ob q2,⟨⟨dh,fin _ _ h0 q4⟩,fin _ _ h1 (fun z=>mp (by rw [z];simp)),by rw [upd_ne Dt.symm,upd_same,List.map_append];rfl,fin _ _ h3 (Ne.symm q6),fin _ _ h4 (fun z=>mb (by rw [z];simp)),tr',rr',mp,mb⟩,?_,L.nd,rfl,rfl⟩ (fun b o e hb=>fin b o e fun z=>hb (by rw [z];simp)) (fun _ hm=>.inl hm) nDH ((LS0.there S).not nDH) ?_
          ·refine ⟨W.pl,W.pc,?_,W.rl,fun y hy=>?_,W.rg,W.bl,W.bf,W.lim,W.dly⟩
           ·show (st.house.tricks++[_]).length≤8
            rw [List.length_append]
            show st.house.tricks.length + 1≤8
            omega
           ·rcases List.mem_append.mp hy with hy | hy
            ·exact W.tg y hy
            ·have ey:y=⟨m.toNat,wt.toNat,Vbcjaj.nats ns,Vbcjaj.nats ls,Vbcjaj.nats rl⟩:=by simpa using hy
             subst ey
             exact ⟨by show 1≤m.toNat;omega,by show m.toNat≤60;omega,by show wt.toNat≤20;omega,by show (Vbcjaj.nats ns).length=_;rw [← g1];exact List.length_map _,by show (Vbcjaj.nats ls).length=_;rw [← g4];exact List.length_map _,fun _=>by show (Vbcjaj.nats rl).length=_;rw [← g7];exact List.length_map _,g3,g6,g9,by show (Vbcjaj.nats rl).length≤_;rw [← g7];exact Nat.le_of_eq (List.length_map _)⟩
          ·rw [upd_same,List.length_append,List.length_map,tsl]
           show some (HO.lst [V.int (((st.house.tricks.length + 1:Nat):Int) - 1)])=some (HO.lst [V.int (st.house.tricks.length:Int)])
           congr 4
           omega
         refine ⟨ta,_,_,rfl,rfl,s4 _ _ (s13 _ _ h2),by rw [List.length_map];exact small1000 (by omega),?_⟩
         exact gen _ s4 ii
end
section
variable {P:Program} {w:World} {K:PySem.W.Frag} {mg:Str→Option Value} {base:Heap} {t:Ad} {SA:SRel}
def spReset (t:Ad) (SA:SRel):Sp:=fun vs H Q _=>∃ (M:List Addr) (ln n l:Addr) (s:Vbcjaj.State) (m:Int) (ns ls:List Int),vs=[.ref ln,.int m,.ref n,.ref l]∧LineSt t SA M H ln s∧H n=some (.lst (ns.map V.int))∧H l=some (.lst (ls.map V.int))∧n∉M∧l∉M∧ns.length≤1000∧ls.length≤1000∧newSt t SA M H ln (Vbcjaj.step s (.reset m ns ls)) Q
abbrev nmReset:List Str:=["line","minutes","need","leave","house"]
theorem scReset:FnScope nmReset ["line","minutes","need","leave"] (defScope s_answer_reset):=⟨rfl,rfl,rfl,by decide +kernel,rfl,by decide +kernel,by decide +kernel⟩
theorem ok_reset (T:Tx K mg t) (S:Stable SA):FnOk P w K mg base CX0 3 t.f_answer_reset t.d_answer_reset ["line","minutes","need","leave"] (spReset t SA):=by
 refine T.x_answer_reset.F.ok scReset (fun vs H Q E h=>?_) (fun cdv A outer s H vs Q E hr h=>?_)
 ·obtain ⟨M,ln,n,l,s,m,ns,ls,rfl,_⟩:=h
  rfl
 ·obtain ⟨M,ln,n,l,st,m,ns,ls,rfl,LS,hn,hl,mn,ml,zn,zl,k⟩:=h
  refine ⟨_,pss_cons (ps_set (i:=4) scReset.nd rfl (Or.inl rfl) (pe_fld (pv 0) rfl))
   (pss_cons (ps_if (pt_not (pt_val (pe_call (ok_within T) (hr.mono (by decide)) rfl T.x_within.m T.x_within.F.kp T.x_within.b .nil pass0 (pa_cons (pv 1) (pa_cons pe_int (pa_cons (pe_const rfl T.k_MOST_MINUTES) pa_nil)))))) (pss_one (ps_ret (pe_lst (pa_cons (pe_const rfl T.k_OUT_OF_RANGE) pa_nil)))) pss_nil)
   (pss_cons (ps_if (PW.pt (pw_or (pt_not (pt_val (pe_call (ok_areSets T) hr rfl T.x_are_sets.m T.x_are_sets.F.kp T.x_are_sets.b .nil pass0 (pa_cons (pv 2) (pa_cons (pe_fld (pv 4) rfl) (pa_cons pe_int pa_nil)))))) (pw_or1 (pt_not (pt_val (pe_call (ok_areSets T) hr rfl T.x_are_sets.m T.x_are_sets.F.kp T.x_are_sets.b .nil pass0 (pa_cons (pv 3) (pa_cons (pe_fld (pv 4) rfl) (pa_cons pe_int pa_nil))))))))) (pss_one (ps_ret (pe_lst (pa_cons (pe_const rfl T.k_WRONG_LIST) pa_nil)))) pss_nil)
   (pss_cons (ps_if (pt_cmp (pc_notN (pe_fld (pv 0) rfl))) (pss_one (ps_ret (pe_lst (pa_cons (pe_const rfl T.k_SHOW_ON_OR_OFF) pa_nil)))) pss_nil)
   (pss_cons (ps_if (pt_cmpR op_eq (pe_callB call_len_seq rfl T.n_len PySem.boot_len (pa_cons (pe_fld (pv 4) rfl) pa_nil)) (pe_const rfl T.k_MOST_RESETS) (nomark _)) (pss_one (ps_ret (pe_lst (pa_cons (pe_const rfl T.k_FULL) pa_nil)))) pss_nil)
   (pss_cons (ps_expr (pe_bm PySem.F.plainAttrs_list PySem.F.slot_list_append PySem.F.type_list_append mt_append (pe_fld (pv 4) rfl) (pa_cons (pe_make T.mk_Item (ok_itemInit T) hr rfl T.mg_Item T.b_Item_init .nil pass0 (pa_cons (pv 1) (pa_cons pe_int (pa_cons (pv 2) (pa_cons (pv 3) (pa_cons (pe_lst pa_nil) pa_nil)))))) pa_nil)))
   (pss_one (ps_ret (pe_lst (pa_cons (pe_op op_sub (pe_callB call_len_seq rfl T.n_len PySem.boot_len (pa_cons (pe_fld (pv 4) rfl) pa_nil)) pe_int) pa_nil))))))))),?_⟩
  have LS0:=LS
  obtain ⟨dx,hs,v,pa,ta,ra,ba,ts,rs,SM,rfl,L⟩:=LS
  have wrong:∀ H1 (c:Int),Same H H1→Vbcjaj.step st (.reset m ns ls)=(st,[c])→tRet (tLst (tCons (tC (.int c)) tNil)) { nx:=fun _ H'=>Q .non H',rt:=Q } [some (.ref ln),some (.int m),some (.ref n),some (.ref l),some (.ref hs)] H1:=fun H1 c s1 e=>by
   rw [e] at k
   exact ⟨by show 1≤sizeLine;decide,(k.stay S LS0).one s1 _ rfl⟩
  have estep:Vbcjaj.step st (.reset m ns ls)=if inR m 1 60=false then Vbcjaj.no st (-1) else if (setsB st.house.props 1 ns && setsB st.house.props 0 ls)=false then Vbcjaj.no st (-2) else Vbcjaj.offStage st (
   if 6≤st.house.resets.length then Vbcjaj.no st (-7) else ({ st with house:={ st.house with resets:=st.house.resets++[⟨m.toNat,Vbcjaj.nats ns,Vbcjaj.nats ls⟩] } },[Vbcjaj.whole st.house.resets.length])):=rfl
  obtain ⟨⟨dh,h0⟩,h1,h2,h3,h4,tr,rr,mp,mb⟩:=L.house
  have h67:∀ p∈st.house.props,p < 7:=fun p hp=>by have:=(L.wf.pc p hp).2;omega
  have z4:∀ {x:Nat},x≤1000→x≤sizeLine:=fun h=>small_le h
  refine ⟨_,rfl,ln,_,dx,_,_,rfl,L.ob,T.cl_Line,T.no_Line_house,rfl,?_⟩
  refine ⟨_,rfl,m,1,60,rfl,_,rfl,?_⟩
  cases c1:inR m 1 60 with
  | false =>
   refine iteT ?_
   exact wrong H _ (Same.refl _) (by rw [estep,c1,if_pos rfl];rfl)
  | true =>
   refine iteF ?_
   have e1:=estep
   rw [c1,if_neg (by simp)] at e1
   refine ⟨_,rfl,_,rfl,hs,_,dh,_,_,rfl,h0,T.cl_House,T.no_House_props,rfl,n,pa,ns,st.house.props,1,rfl,SqL.of hn,SqL.of h1,z4 zn,h67,fun H1 s1=>⟨_,rfl,?_⟩⟩
   cases c3:setsB st.house.props 1 ns with
   | false =>
    refine iteT ?_
    refine iteT ?_
    exact wrong H1 _ s1 (by rw [e1,c3,Bool.false_and,if_pos rfl];rfl)
   | true =>
    refine iteF ?_
    refine ⟨_,rfl,_,rfl,hs,_,dh,_,_,rfl,s1 _ _ h0,T.cl_House,T.no_House_props,rfl,l,pa,ls,st.house.props,0,rfl,SqL.of (s1 _ _ hl),SqL.of (s1 _ _ h1),z4 zl,h67,fun H3 s2=>⟨_,rfl,?_⟩⟩
    have s13:=s1.trans s2
    cases c4:setsB st.house.props 0 ls with
    | false =>
     refine iteT ?_
     exact wrong H3 _ s13 (by rw [e1,c3,c4,Bool.and_false,if_pos rfl];rfl)
    | true =>
     refine iteF ?_
     rw [c3,c4,if_neg (by simp)] at e1
     refine ⟨_,rfl,ln,_,dx,_,_,rfl,s13 _ _ L.ob,T.cl_Line,T.no_Line_show,rfl,_,rfl,?_⟩
     have hsh:=L.sh
     cases hst:st.stage with
     | some g =>
      rw [hst] at hsh
      obtain ⟨sa,rfl,_⟩:=hsh
      refine iteT ?_
      refine wrong H3 _ s13 ?_
      rw [e1]
      unfold Vbcjaj.offStage
      rw [hst]
      rfl
     | none =>
      rw [hst] at hsh
      obtain ⟨rfl,rfl⟩:=hsh
      refine iteF ?_
      unfold Vbcjaj.offStage at e1
      rw [hst] at e1
      dsimp only at e1
      have rsl:rs.length=st.house.resets.length:=by rw [rr.len,List.length_map]
      have hrl:=L.wf.rl
      refine ⟨_,rfl,hs,_,dh,_,_,rfl,s13 _ _ h0,T.cl_House,T.no_House_resets,rfl,ra,_,rfl,.inl (SqL.of (s13 _ _ h3)),rfl,_,rfl,?_⟩
      rw [List.length_map]
      show if decide (V.int (rs.length:Int)=V.int ((6:Nat):Int))=true then _ else _
      rw [dec_int_eq]
      refine ifB (fun z=>?_) (fun z=>?_)
      ·have z':rs.length=6:=of_decide_eq_true z
       exact wrong H3 _ s13 (by rw [e1,if_pos (by omega)];rfl)
      ·have z':¬ rs.length=6:=of_decide_eq_false z
       rw [if_neg (by omega)] at e1
       rw [e1] at k
       obtain ⟨g1,g2,g3⟩:=sets_good c3 (by decide) L.wf.pc
       obtain ⟨g4,g5,g6⟩:=sets_good c4 (by decide) L.wf.pc
       have m60:1≤m∧m≤60:=by unfold inR at c1;simpa using c1
       have em:m=((m.toNat:Nat):Int):=by omega
       have hn3:=s13 _ _ hn
       have hl3:=s13 _ _ hl
       rw [ints_nats g2] at hn3
       rw [ints_nats g5] at hl3
       have th3:=(LS0.there S).same s13
       refine ⟨_,rfl,hs,_,dh,_,_,rfl,s13 _ _ h0,T.cl_House,T.no_House_resets,rfl,Or.inl ⟨rfl,_,SqL.of (s13 _ _ h3)⟩,_,rfl,_,rfl,_,rfl,Nat.zero_le _,fun e ne0=>fun x dx' nx nd ne=>?_⟩
       have se:=Same.new (o:=HO.lst []) ne0
       have s1e:=s13.trans se
       refine ⟨x,dx',n,l,e,m.toNat,0,by rw [← em];rfl,upd_same,rfl,?_⟩
       obtain ⟨s4,ii⟩:=item_made (t:=t) (M:=[ln,hs,ta,ra]) (it:=ofReset ⟨m.toNat,Vbcjaj.nats ns,Vbcjaj.nats ls⟩) (n:=n) (l:=l) (r:=e) nx nd ne (th3.same se) (se _ _ hn3) (se _ _ hl3) upd_same mn ml (th3.not ne0)
       have gen:∀ H4,Same (upd H3 e (.lst [])) H4→IsItem t [ln,hs,ta,ra] H4 x (ofReset ⟨m.toNat,Vbcjaj.nats ns,Vbcjaj.nats ls⟩)→(tSeq (tDrop (fun _ _ Q=>Q .non (upd H4 ra (.lst (rs.map V.ref++[.ref x]))))) (tRet (tLst (tCons (tOp (rI0 fun i j=>.int (i - j)) (tCB (fun xs H Q=>∃ p ys,xs=[.ref p]∧(SqL K H p ys∨SqT K H p ys)∧Q (.int ys.length) H) (tCons (tFld K (tVar 4) "resets") tNil)) (tC (.int 1))) tNil)))) { nx:=fun _ H'=>Q .non H',rt:=Q } [some (.ref ln),some (.int m),some (.ref n),some (.ref l),some (.ref hs)] H4:=by
        intro H4 s4 ii
        have nodup:=L.nd
        simp only [List.nodup_cons,List.mem_cons,List.not_mem_nil,or_false,not_or,not_false_eq_true,List.nodup_nil,and_true] at nodup
        obtain ⟨⟨q1,q2,q3⟩,⟨q4,q5⟩,q6⟩:=nodup
        have s14:=s1e.trans s4
        refine ⟨_,rfl,hs,_,dh,_,_,rfl,by rw [upd_ne q5];exact s14 _ _ h0,T.cl_House,T.no_House_resets,rfl,ra,_,rfl,.inl (SqL.of upd_same),_,_,rfl,rfl,by show 1≤sizeLine;decide,fun D nD=>?_⟩
        have Dt:D≠ra:=fun z=>by rw [z,upd_same] at nD;cases nD
        have nD4:H4 D=none:=by rw [upd_ne Dt] at nD;exact nD
        have nDH:H D=none:=s14.free nD4
        have kp:Kp [ln,hs,ta,ra] H4 (upd (upd H4 ra (.lst (rs.map V.ref++[.ref x]))) D (.lst [V.int (((rs.map V.ref++[V.ref x]).length:Int) - 1)])):=fun b o e hb=>by
         rw [upd_ne (ne_of_none e nD4),upd_ne (fun z=>hb (by rw [z];simp))]
         exact e
        have fin:∀ b o,H b=some o→b≠ra→upd (upd H4 ra (.lst (rs.map V.ref++[.ref x]))) D (.lst [V.int (((rs.map V.ref++[V.ref x]).length:Int) - 1)]) b=some o:=fun b o e hb=>by
         rw [upd_ne (ne_of_none (s14 _ _ e) nD4),upd_ne hb]
         exact s14 _ _ e
        have rr':Row t [ln,hs,ta,ra] (upd (upd H4 ra (.lst (rs.map V.ref++[.ref x]))) D (.lst [V.int (((rs.map V.ref++[V.ref x]).length:Int) - 1)])) (rs++[x]) ((st.house.resets++[(⟨m.toNat,Vbcjaj.nats ns,Vbcjaj.nats ls⟩:Vbcjaj.Reset)]).map ofReset):=by
         rw [List.map_append]
         exact ((rr.mono fun b o e _=>s14 b o e).snoc ii).mono kp
        have tr':=tr.mono (H':=upd (upd H4 ra (.lst (rs.map V.ref++[.ref x]))) D (.lst [V.int (((rs.map V.ref++[V.ref x]).length:Int) - 1)])) fun b o e hb=>fin b o e fun z=>hb (by rw [z];simp)
        have W:=L.wf
        refine k _ [ln,hs,ta,ra] D ⟨dx,hs,.non,pa,ta,ra,ba,ts,rs++[x],[],rfl,fin _ _ L.ob q3,⟨⟨dh,fin _ _ h0 q5⟩,fin _ _ h1 (fun z=>mp (by rw [z];simp)),fin _ _ h2 q6,by rw [upd_ne Dt.symm,upd_same,List.map_append];rfl,fin _ _ h4 (fun z=>mb (by rw [z];simp)),tr',rr',mp,mb⟩,?_,L.nd,rfl,rfl⟩ (fun b o e hb=>fin b o e fun z=>hb (by rw [z];simp)) (fun _ hm=>.inl hm) nDH ((LS0.there S).not nDH) ?_
        ·refine ⟨W.pl,W.pc,W.tl,?_,W.tg,fun y hy=>?_,W.bl,W.bf,W.lim,W.dly⟩
         ·show (st.house.resets++[_]).length≤6
          rw [List.length_append]
          show st.house.resets.length + 1≤6
          omega
         ·rcases List.mem_append.mp hy with hy | hy
          ·exact W.rg y hy
          ·have ey:y=⟨m.toNat,Vbcjaj.nats ns,Vbcjaj.nats ls⟩:=by simpa using hy
           subst ey
           exact ⟨by show 1≤m.toNat;omega,by show m.toNat≤60;omega,Nat.zero_le _,by show (Vbcjaj.nats ns).length=_;rw [← g1];exact List.length_map _,by show (Vbcjaj.nats ls).length=_;rw [← g4];exact List.length_map _,(fun z=>absurd rfl z),g3,g6,(fun _ z=>nomatch z),Nat.zero_le _⟩
        ·rw [upd_same,List.length_append,List.length_map,rsl]
         show some (HO.lst [V.int (((st.house.resets.length + 1:Nat):Int) - 1)])=some (HO.lst [V.int (st.house.resets.length:Int)])
         congr 4
         omega
       refine ⟨ra,_,_,rfl,rfl,s4 _ _ (s1e _ _ h3),by rw [List.length_map];exact small1000 (by omega),?_⟩
       exact gen _ s4 ii
end
section
variable {P:Program} {w:World} {K:PySem.W.Frag} {mg:Str→Option Value} {base:Heap} {t:Ad} {SA:SRel}
def spHall (t:Ad) (SA:SRel):Sp:=fun vs H Q _=>∃ (M:List Addr) (ln b:Addr) (s:Vbcjaj.State) (lm dl:Int) (bs:List Int),vs=[.ref ln,.int lm,.int dl,.ref b]∧LineSt t SA M H ln s∧H b=some (.lst (bs.map V.int))∧b∉M∧bs.length≤1000∧newSt t SA M H ln (Vbcjaj.step s (.hall lm dl bs)) Q
abbrev nmHall:List Str:=["line","limit","delay","beliefs","house"]
theorem scHall:FnScope nmHall ["line","limit","delay","beliefs"] (defScope s_answer_hall):=⟨rfl,rfl,rfl,by decide +kernel,rfl,by decide +kernel,by decide +kernel⟩
theorem ok_hall (T:Tx K mg t) (S:Stable SA):FnOk P w K mg base CX0 3 t.f_answer_hall t.d_answer_hall ["line","limit","delay","beliefs"] (spHall t SA):=by
 refine T.x_answer_hall.F.ok scHall (fun vs H Q E h=>?_) (fun cdv A outer s H vs Q E hr h=>?_)
 ·obtain ⟨M,ln,b,s,lm,dl,bs,rfl,_⟩:=h
  rfl
 ·obtain ⟨M,ln,b,st,lm,dl,bs,rfl,LS,hb,bM,zb,k⟩:=h
  refine ⟨_,pss_cons (ps_set (i:=4) scHall.nd rfl (Or.inl rfl) (pe_fld (pv 0) rfl))
   (pss_cons (ps_if (PW.pt (pw_or (pt_not (pt_val (pe_call (ok_within T) (hr.mono (by decide)) rfl T.x_within.m T.x_within.F.kp T.x_within.b .nil pass0 (pa_cons (pv 1) (pa_cons pe_int (pa_cons (pe_const rfl T.k_MOST_LIMIT) pa_nil)))))) (pw_or1 (pt_not (pt_val (pe_call (ok_within T) (hr.mono (by decide)) rfl T.x_within.m T.x_within.F.kp T.x_within.b .nil pass0 (pa_cons (pv 2) (pa_cons pe_int (pa_cons (pe_const rfl T.k_MOST_DELAY) pa_nil))))))))) (pss_one (ps_ret (pe_lst (pa_cons (pe_const rfl T.k_OUT_OF_RANGE) pa_nil)))) pss_nil)
   (pss_cons (ps_if (pt_not (pt_val (pe_call (ok_areSets T) hr rfl T.x_are_sets.m T.x_are_sets.F.kp T.x_are_sets.b .nil pass0 (pa_cons (pv 3) (pa_cons (pe_fld (pv 4) rfl) (pa_cons pe_int pa_nil)))))) (pss_one (ps_ret (pe_lst (pa_cons (pe_const rfl T.k_WRONG_LIST) pa_nil)))) pss_nil)
   (pss_cons (ps_if (pt_cmp (pc_notN (pe_fld (pv 0) rfl))) (pss_one (ps_ret (pe_lst (pa_cons (pe_const rfl T.k_SHOW_ON_OR_OFF) pa_nil)))) pss_nil)
   (pss_cons (ps_fld (pv 4) (pv 1) rfl) (pss_cons (ps_fld (pv 4) (pv 2) rfl) (pss_cons (ps_fld (pv 4) (pv 3) rfl)
   (pss_one (ps_ret (pe_lst (pa_cons pe_int pa_nil)))))))))),?_⟩
  have LS0:=LS
  obtain ⟨dx,hs,v,pa,ta,ra,ba,ts,rs,SM,rfl,L⟩:=LS
  have wrong:∀ H1 (c:Int),Same H H1→Vbcjaj.step st (.hall lm dl bs)=(st,[c])→tRet (tLst (tCons (tC (.int c)) tNil)) { nx:=fun _ H'=>Q .non H',rt:=Q } [some (.ref ln),some (.int lm),some (.int dl),some (.ref b),some (.ref hs)] H1:=fun H1 c s1 e=>by
   rw [e] at k
   exact ⟨by show 1≤sizeLine;decide,(k.stay S LS0).one s1 _ rfl⟩
  have estep:Vbcjaj.step st (.hall lm dl bs)=if (inR lm 0 480 && inR dl 0 20)=false then Vbcjaj.no st (-1) else if setsB st.house.props 1 bs=false then Vbcjaj.no st (-2) else Vbcjaj.offStage st ({ st with house:={ st.house with limit:=lm.toNat,delay:=dl.toNat,begin_:=Vbcjaj.nats bs } },[0]):=rfl
  obtain ⟨⟨dh,h0⟩,h1,h2,h3,h4,tr,rr,mp,mb⟩:=L.house
  have h67:∀ p∈st.house.props,p < 7:=fun p hp=>by have:=(L.wf.pc p hp).2;omega
  refine ⟨_,rfl,ln,_,dx,_,_,rfl,L.ob,T.cl_Line,T.no_Line_house,rfl,?_⟩
  refine ⟨_,rfl,lm,0,480,rfl,_,rfl,?_⟩
  cases c1:inR lm 0 480 with
  | false =>
   refine iteT ?_
   refine iteT ?_
   exact wrong H _ (Same.refl _) (by rw [estep,c1,Bool.false_and,if_pos rfl];rfl)
  | true =>
   refine iteF ?_
   refine ⟨_,rfl,dl,0,20,rfl,_,rfl,?_⟩
   cases c2:inR dl 0 20 with
   | false =>
    refine iteT ?_
    exact wrong H _ (Same.refl _) (by rw [estep,c1,c2,Bool.and_false,if_pos rfl];rfl)
   | true =>
    refine iteF ?_
    have e1:=estep
    rw [c1,c2,if_neg (by simp)] at e1
    refine ⟨_,rfl,_,rfl,hs,_,dh,_,_,rfl,h0,T.cl_House,T.no_House_props,rfl,b,pa,bs,st.house.props,1,rfl,SqL.of hb,SqL.of h1,small_le zb,h67,fun H1 s1=>⟨_,rfl,?_⟩⟩
    cases c3:setsB st.house.props 1 bs with
    | false =>
     refine iteT ?_
     exact wrong H1 _ s1 (by rw [e1,c3,if_pos rfl];rfl)
    | true =>
     refine iteF ?_
     rw [c3,if_neg (by simp)] at e1
     refine ⟨_,rfl,ln,_,dx,_,_,rfl,s1 _ _ L.ob,T.cl_Line,T.no_Line_show,rfl,_,rfl,?_⟩
     have hsh:=L.sh
     cases hst:st.stage with
     | some g =>
      rw [hst] at hsh
      obtain ⟨sa,rfl,_⟩:=hsh
      refine iteT ?_
      refine wrong H1 _ s1 ?_
      rw [e1]
      unfold Vbcjaj.offStage
      rw [hst]
      rfl
     | none =>
      rw [hst] at hsh
      obtain ⟨rfl,rfl⟩:=hsh
      refine iteF ?_
      unfold Vbcjaj.offStage at e1
      rw [hst] at e1
      dsimp only at e1
      rw [e1] at k
      obtain ⟨g1,g2,g3⟩:=sets_good c3 (by decide) L.wf.pc
      have l480:0≤lm∧lm≤480:=by unfold inR at c1;simpa using c1
      have d20:0≤dl∧dl≤20:=by unfold inR at c2;simpa using c2
      have el:lm=((lm.toNat:Nat):Int):=by omega
      have ed:dl=((dl.toNat:Nat):Int):=by omega
      have nodup:=L.nd
      simp only [List.nodup_cons,List.mem_cons,List.not_mem_nil,or_false,not_or,not_false_eq_true,List.nodup_nil,and_true] at nodup
      obtain ⟨⟨q1,q2,q3⟩,⟨q4,q5⟩,q6⟩:=nodup
      refine ⟨_,rfl,_,rfl,hs,_,dh,_,rfl,s1 _ _ h0,T.cl_House,T.no_House_limit,by show 6 < 1000;decide,?_⟩
      refine ⟨_,rfl,_,rfl,hs,_,dh,_,rfl,upd_same,T.cl_House,T.no_House_delay,by show 6 < 1000;decide,?_⟩
      refine ⟨_,rfl,_,rfl,hs,_,dh,_,rfl,upd_same,T.cl_House,T.no_House_beliefs,by show 6 < 1000;decide,?_⟩
      refine ⟨by show 1≤sizeLine;decide,fun D nD=>?_⟩
      rw [upd_upd,upd_upd] at nD ⊢
      have Dh:D≠hs:=fun z=>by rw [z,upd_same] at nD;cases nD
      have nD1:H1 D=none:=by rw [upd_ne Dh] at nD;exact nD
      have nDH:H D=none:=s1.free nD1
      generalize hF:upd (upd H1 hs _) D _=Hf
      have fin:∀ c o,H c=some o→c≠hs→Hf c=some o:=fun c o e hc=>by
       rw [← hF,upd_ne (ne_of_none (s1 _ _ e) nD1),upd_ne hc]
       exact s1 _ _ e
      have hhs:Hf hs=some (.ins t.c_House dh (houseF pa ta ra lm.toNat dl.toNat b)):=by
       rw [← hF,upd_ne Dh.symm,upd_same]
       show some (HO.ins t.c_House dh [("props",V.ref pa),("tricks",V.ref ta),("resets",V.ref ra),("limit",V.int lm),("delay",V.int dl),("beliefs",V.ref b)])=_
       unfold houseF
       rw [← el,← ed]
      have hD:Hf D=some (.lst [V.int 0]):=by rw [← hF,upd_same]
      have hb':=fin _ _ hb (fun z=>bM (by rw [z];simp))
      rw [ints_nats g2] at hb'
      have kp:Kp [ln,hs,ta,ra] H Hf:=fun c o e hc=>fin c o e fun z=>hc (by rw [z];simp)
      have W:=L.wf
      refine k Hf [ln,hs,ta,ra] D ⟨dx,hs,.non,pa,ta,ra,b,ts,rs,[],rfl,fin _ _ L.ob q1,⟨⟨dh,hhs⟩,fin _ _ h1 (fun z=>mp (by rw [z];simp)),fin _ _ h2 (Ne.symm q4),fin _ _ h3 (Ne.symm q5),hb',tr.mono kp,rr.mono kp,mp,bM⟩,⟨W.pl,W.pc,W.tl,W.rl,W.tg,W.rg,?_,g3,by show lm.toNat≤480;omega,by show dl.toNat≤20;omega⟩,L.nd,rfl,rfl⟩ kp (fun _ hm=>.inl hm) nDH ((LS0.there S).not nDH) hD
      show (Vbcjaj.nats bs).length=st.house.props.length
      rw [← g1]
      exact List.length_map _
end
section
variable {P:Program} {w:World} {K:PySem.W.Frag} {mg:Str→Option Value} {base:Heap} {t:Ad} {SA:SRel}
def trickN (x:Vbcjaj.Trick):List Int:=Vbcjaj.whole x.minutes::Vbcjaj.whole x.wait::Vbcjaj.ints (x.need++(x.leave++x.rescue))
def resetN (x:Vbcjaj.Reset):List Int:=Vbcjaj.whole x.minutes::Vbcjaj.ints (x.need++x.leave)
def toldAns (h:Vbcjaj.House):List Int:=Vbcjaj.listed h.props++((Vbcjaj.whole h.tricks.length::h.tricks.flatMap trickN)++((Vbcjaj.whole h.resets.length::h.resets.flatMap resetN)++(Vbcjaj.whole h.limit::Vbcjaj.whole h.delay::Vbcjaj.ints h.begin_)))
theorem told_step (s:Vbcjaj.State):Vbcjaj.step s .told=(s,toldAns s.house):=rfl
def spTold (t:Ad):Sp:=fun vs H Q _=>∃ (M:List Addr) (ln:Addr) (h:Vbcjaj.House),vs=[.ref ln]∧LineHouse t M H ln h∧Wf h∧newInts H (toldAns h) Q
abbrev nmTold:List Str:=["line","house","told","item"]
theorem scTold:FnScope nmTold ["line"] (defScope s_answer_told):=⟨rfl,rfl,rfl,by decide +kernel,rfl,by decide +kernel,by decide +kernel⟩
theorem ok_told (T:Tx K mg t):FnOk P w K mg base CX0 1 t.f_answer_told t.d_answer_told ["line"] (spTold t):=by
 refine T.x_answer_told.F.ok scTold (fun vs H Q E h=>?_) (fun cdv A outer s H vs Q E hr h=>?_)
 ·obtain ⟨M,ln,h,rfl,_⟩:=h
  rfl
 ·obtain ⟨M,ln,h,rfl,⟨dl,hs,sh,hln,pa,ta,ra,ba,ts,rs,⟨dh,h0⟩,h1,h2,h3,h4,tr,rr,_⟩,Wh,k⟩:=h
  refine ⟨_,pss_cons (ps_set (i:=1) scTold.nd rfl (Or.inl rfl) (pe_fld (pv 0) rfl))
   (pss_cons (ps_set (i:=2) scTold.nd rfl (Or.inl rfl) (pe_op op_cat (pe_lst (pa_cons (pe_callB call_len_seq rfl T.n_len PySem.boot_len (pa_cons (pe_fld (pv 1) rfl) pa_nil)) pa_nil)) (pe_fld (pv 1) rfl)))
   (pss_cons (ps_expr (pe_bm PySem.F.plainAttrs_list PySem.F.slot_list_append PySem.F.type_list_append mt_append (pv 2) (pa_cons (pe_callB call_len_seq rfl T.n_len PySem.boot_len (pa_cons (pe_fld (pv 1) rfl) pa_nil)) pa_nil)))
   (pss_cons (ps_for PassesOwn.never rfl (pi_list (pe_fld (pv 1) rfl)) (pg_name (i:=3) scTold.nd rfl (Or.inl rfl))
    (pss_one (ps_expr (pe_bm PySem.F.plainAttrs_list PySem.F.slot_list_extend PySem.F.type_list_extend mt_extend (pv 2) (pa_cons (pe_op op_cat (pe_op op_cat (pe_op op_cat (pe_lst (pa_cons (pe_fld (pv 3) rfl) (pa_cons (pe_fld (pv 3) rfl) pa_nil))) (pe_fld (pv 3) rfl)) (pe_fld (pv 3) rfl)) (pe_fld (pv 3) rfl)) pa_nil)))))
   (pss_cons (ps_expr (pe_bm PySem.F.plainAttrs_list PySem.F.slot_list_append PySem.F.type_list_append mt_append (pv 2) (pa_cons (pe_callB call_len_seq rfl T.n_len PySem.boot_len (pa_cons (pe_fld (pv 1) rfl) pa_nil)) pa_nil)))
   (pss_cons (ps_for PassesOwn.never rfl (pi_list (pe_fld (pv 1) rfl)) (pg_name (i:=3) scTold.nd rfl (Or.inl rfl))
    (pss_one (ps_expr (pe_bm PySem.F.plainAttrs_list PySem.F.slot_list_extend PySem.F.type_list_extend mt_extend (pv 2) (pa_cons (pe_op op_cat (pe_op op_cat (pe_lst (pa_cons (pe_fld (pv 3) rfl) pa_nil)) (pe_fld (pv 3) rfl)) (pe_fld (pv 3) rfl)) pa_nil)))))
   (pss_one (ps_ret (pe_op op_cat (pe_op op_cat (pv 2) (pe_lst (pa_cons (pe_fld (pv 1) rfl) (pa_cons (pe_fld (pv 1) rfl) pa_nil)))) (pe_fld (pv 1) rfl))))))))),?_⟩
  have hpl:=Wh.pl
  have htl:=Wh.tl
  have hrl:=Wh.rl
  have cast:∀ l:List Nat,(Vbcjaj.ints l).map V.int=nv l:=fun l=>by unfold Vbcjaj.ints nv;rw [List.map_map];rfl
  have big:∀ {c:Nat},c≤1000→c≤sizeLine:=fun h=>small_le h
  have tsl:ts.length=h.tricks.length:=by rw [tr.len,List.length_map]
  have rsl:rs.length=h.resets.length:=by rw [rr.len,List.length_map]
  refine ⟨_,rfl,ln,_,dl,_,_,rfl,hln,T.cl_Line,T.no_Line_house,rfl,?_⟩
  refine ⟨_,rfl,hs,_,dh,_,_,rfl,h0,T.cl_House,T.no_House_props,rfl,pa,_,rfl,.inl (SqL.of h1),by show 1≤sizeLine;decide,fun L nL=>?_⟩
  have sL:=Same.new (o:=HO.lst [V.int ((nv h.props).length:Int)]) nL
  refine ⟨_,rfl,hs,_,dh,_,_,rfl,sL _ _ h0,T.cl_House,T.no_House_props,rfl,L,pa,_,_,rfl,rfl,upd_same,sL _ _ h1,by rw [List.length_map];exact big (by show 1 + h.props.length≤1000;omega),fun D nD=>?_⟩
  have sD:=Same.new (o:=HO.lst ([V.int ((nv h.props).length:Int)]++nv h.props)) nD
  have s0:=sL.trans sD
  have nDH:H D=none:=sL.free nD
  have e0:[V.int ((nv h.props).length:Int)]++nv h.props=(Vbcjaj.listed h.props).map V.int:=by
   unfold Vbcjaj.listed
   rw [List.map_cons,cast,List.length_map]
   rfl
  have hD0:upd (upd H L (.lst [V.int ((nv h.props).length:Int)])) D (.lst ([V.int ((nv h.props).length:Int)]++nv h.props)) D=some (.lst ((Vbcjaj.listed h.props).map V.int)):=by rw [upd_same,e0]
  have l0:(Vbcjaj.listed h.props).length≤5:=by unfold Vbcjaj.listed Vbcjaj.ints;rw [List.length_cons,List.length_map];omega
  generalize upd (upd H L (.lst [V.int ((nv h.props).length:Int)])) D (.lst ([V.int ((nv h.props).length:Int)]++nv h.props))=H0 at s0 hD0 ⊢
  refine ⟨_,rfl,Or.inl ⟨rfl,_,SqL.of hD0⟩,_,rfl,hs,_,dh,_,_,rfl,s0 _ _ h0,T.cl_House,T.no_House_tricks,rfl,ta,_,rfl,.inl (SqL.of (s0 _ _ h2)),D,_,_,rfl,rfl,hD0,by rw [List.length_map];exact small1000 (by omega),?_⟩
  have s1:Same H (upd H0 D (.lst ((Vbcjaj.listed h.props).map V.int++[V.int ((ts.map V.ref).length:Int)]))):=Same.over nDH s0
  have hD1:upd H0 D (.lst ((Vbcjaj.listed h.props).map V.int++[V.int ((ts.map V.ref).length:Int)])) D=some (.lst ((Vbcjaj.listed h.props++[Vbcjaj.whole h.tricks.length]).map V.int)):=by rw [upd_same,List.length_map,tsl,List.map_append];rfl
  generalize upd H0 D (.lst ((Vbcjaj.listed h.props).map V.int++[V.int ((ts.map V.ref).length:Int)]))=H1 at s1 hD1 ⊢
  refine ⟨_,rfl,hs,_,dh,_,_,rfl,s1 _ _ h0,T.cl_House,T.no_House_tricks,rfl,ta,rfl,⟨_,SqL.of (s1 _ _ h2)⟩,?_⟩
  refine for_list (K:=K) (a:=ta) (xs:=ts.map V.ref) (fun i σ H'=>∃ v3:Option V,σ=[some (.ref ln),some (.ref hs),some (.ref D),v3]∧Same H H'∧H' D=some (.lst (((Vbcjaj.listed h.props++[Vbcjaj.whole h.tricks.length])++(h.tricks.take i).flatMap trickN).map V.int))∧((h.tricks.take i).flatMap trickN).length≤20 * i)
   ⟨none,rfl,s1,by rw [List.take_zero,List.flatMap_nil,List.append_nil];exact hD1,Nat.le_refl _⟩ (fun i σ H' _ ⟨_,_,sm,_⟩=>SqL.of (sm _ _ h2)) ?_ ?_
  ·rintro i y σ H' hy ⟨v3,rfl,sm,hD,bd⟩
   obtain ⟨x,hx,rfl⟩:=get_map hy
   have hi:i < h.tricks.length:=by rw [← tsl];exact (List.getElem?_eq_some_iff.mp hx).1
   obtain ⟨tk',htk⟩:∃ tk',h.tricks[i]?=some tk':=⟨_,List.getElem?_eq_getElem hi⟩
   have gi:=Wh.tg tk' (List.mem_of_getElem? htk)
   obtain ⟨n,l,r,⟨dz,io⟩,i1,i2,i3,_⟩:=tr.at_ i x (ofTrick tk') hx (by rw [List.getElem?_map,htk];rfl)
   have z1:tk'.need.length=h.props.length:=gi.need
   have z2:tk'.leave.length=h.props.length:=gi.leave
   have z3:tk'.rescue.length≤h.props.length:=gi.rl
   refine ⟨_,rfl,Or.inl ⟨rfl,_,SqL.of hD⟩,_,rfl,x,_,dz,_,_,rfl,sm _ _ io,T.cl_Item,T.no_Item_minutes,rfl,_,rfl,x,_,dz,_,_,rfl,sm _ _ io,T.cl_Item,T.no_Item_wait,rfl,by show 2≤sizeLine;decide,fun a1 n1=>?_⟩
   have t1:=sm.trans (Same.new (o:=HO.lst [V.int (tk'.minutes:Int),V.int (tk'.wait:Int)]) n1)
   refine ⟨_,rfl,x,_,dz,_,_,rfl,t1 _ _ io,T.cl_Item,T.no_Item_need,rfl,a1,n,_,_,rfl,rfl,upd_same,t1 _ _ i1,by rw [List.length_map];exact big (by show 2 + tk'.need.length≤1000;omega),fun a2 n2=>?_⟩
   have t2:=t1.trans (Same.new (o:=HO.lst ([V.int (tk'.minutes:Int),V.int (tk'.wait:Int)]++nv tk'.need)) n2)
   refine ⟨_,rfl,x,_,dz,_,_,rfl,t2 _ _ io,T.cl_Item,T.no_Item_leave,rfl,a2,l,_,_,rfl,rfl,upd_same,t2 _ _ i2,by rw [List.length_append,List.length_map,List.length_map];exact big (by show 2 + tk'.need.length + tk'.leave.length≤1000;omega),fun a3 n3=>?_⟩
   have t3:=t2.trans (Same.new (o:=HO.lst ([V.int (tk'.minutes:Int),V.int (tk'.wait:Int)]++nv tk'.need++nv tk'.leave)) n3)
   refine ⟨_,rfl,x,_,dz,_,_,rfl,t3 _ _ io,T.cl_Item,T.no_Item_rescue,rfl,a3,r,_,_,rfl,rfl,upd_same,t3 _ _ i3,by rw [List.length_append,List.length_append,List.length_map,List.length_map,List.length_map];exact big (by show 2 + tk'.need.length + tk'.leave.length + tk'.rescue.length≤1000;omega),fun a4 n4=>?_⟩
   have t4:=t3.trans (Same.new (o:=HO.lst ([V.int (tk'.minutes:Int),V.int (tk'.wait:Int)]++nv tk'.need++nv tk'.leave++nv tk'.rescue)) n4)
   have hDx:=(Same.new (o:=HO.lst ([V.int (tk'.minutes:Int),V.int (tk'.wait:Int)]++nv tk'.need++nv tk'.leave++nv tk'.rescue)) n4) _ _ ((Same.new (o:=HO.lst ([V.int (tk'.minutes:Int),V.int (tk'.wait:Int)]++nv tk'.need++nv tk'.leave)) n3) _ _ ((Same.new (o:=HO.lst ([V.int (tk'.minutes:Int),V.int (tk'.wait:Int)]++nv tk'.need)) n2) _ _ ((Same.new (o:=HO.lst [V.int (tk'.minutes:Int),V.int (tk'.wait:Int)]) n1) _ _ hD)))
   have en:[V.int (tk'.minutes:Int),V.int (tk'.wait:Int)]++nv tk'.need++nv tk'.leave++nv tk'.rescue=(trickN tk').map V.int:=by
    unfold trickN
    rw [List.map_cons,List.map_cons,cast]
    unfold nv
    rw [List.map_append,List.map_append,List.append_assoc,List.append_assoc]
    rfl
   have en':[V.int ((ofTrick tk').minutes:Int),V.int ((ofTrick tk').wait:Int)]++nv (ofTrick tk').need++nv (ofTrick tk').leave++nv (ofTrick tk').rescue=(trickN tk').map V.int:=en
   have etk:(h.tricks.take (i + 1)).flatMap trickN=(h.tricks.take i).flatMap trickN++trickN tk':=by
    rw [List.take_add_one,htk,List.flatMap_append]
    show _++List.flatMap trickN [tk']=_
    rw [List.flatMap_singleton]
   have ltk:(trickN tk').length≤14:=by
    unfold trickN Vbcjaj.ints
    rw [List.length_cons,List.length_cons,List.length_map,List.length_append,List.length_append]
    omega
   refine ⟨D,a4,_,_,rfl,rfl,hDx,upd_same,?_,?_⟩
   ·rw [en',List.length_map,List.length_map,List.length_append,List.length_append]
    have:([Vbcjaj.whole h.tricks.length]:List Int).length=1:=rfl
    exact big (by omega)
   ·refine ⟨_,rfl,Same.over nDH t4,?_,?_⟩
    ·rw [upd_same,en',← List.map_append,etk];simp only [List.append_assoc]
    ·rw [etk,List.length_append]
     omega
  ·rintro σ H2 ⟨v3,rfl,s2,hD2,bd2⟩
   have efull:h.tricks.take (ts.map V.ref).length=h.tricks:=by rw [List.length_map,tsl,List.take_length]
   rw [efull] at hD2 bd2
   rw [List.length_map,tsl] at bd2
   have la:(Vbcjaj.listed h.props++[Vbcjaj.whole h.tricks.length]++h.tricks.flatMap trickN).length≤170:=by
    rw [List.length_append,List.length_append]
    have:([Vbcjaj.whole h.tricks.length]:List Int).length=1:=rfl
    omega
   generalize eA:Vbcjaj.listed h.props++[Vbcjaj.whole h.tricks.length]++h.tricks.flatMap trickN=acc at hD2 la
   refine ⟨_,rfl,Or.inl ⟨rfl,_,SqL.of hD2⟩,_,rfl,hs,_,dh,_,_,rfl,s2 _ _ h0,T.cl_House,T.no_House_resets,rfl,ra,_,rfl,.inl (SqL.of (s2 _ _ h3)),D,_,_,rfl,rfl,hD2,by rw [List.length_map];exact small1000 (by omega),?_⟩
   have s3:Same H (upd H2 D (.lst (acc.map V.int++[V.int ((rs.map V.ref).length:Int)]))):=Same.over nDH s2
   have hD3:upd H2 D (.lst (acc.map V.int++[V.int ((rs.map V.ref).length:Int)])) D=some (.lst ((acc++[Vbcjaj.whole h.resets.length]).map V.int)):=by rw [upd_same,List.length_map,rsl,List.map_append];rfl
   generalize upd H2 D (.lst (acc.map V.int++[V.int ((rs.map V.ref).length:Int)]))=H3 at s3 hD3 ⊢
   refine ⟨_,rfl,hs,_,dh,_,_,rfl,s3 _ _ h0,T.cl_House,T.no_House_resets,rfl,ra,rfl,⟨_,SqL.of (s3 _ _ h3)⟩,?_⟩
   refine for_list (K:=K) (a:=ra) (xs:=rs.map V.ref) (fun i σ H'=>∃ v3:Option V,σ=[some (.ref ln),some (.ref hs),some (.ref D),v3]∧Same H H'∧H' D=some (.lst (((acc++[Vbcjaj.whole h.resets.length])++(h.resets.take i).flatMap resetN).map V.int))∧((h.resets.take i).flatMap resetN).length≤20 * i)
    ⟨v3,rfl,s3,by rw [List.take_zero,List.flatMap_nil,List.append_nil];exact hD3,Nat.le_refl _⟩ (fun i σ H' _ ⟨_,_,sm,_⟩=>SqL.of (sm _ _ h3)) ?_ ?_
   ·rintro i y σ H' hy ⟨v3,rfl,sm,hD,bd⟩
    obtain ⟨x,hx,rfl⟩:=get_map hy
    have hi:i < h.resets.length:=by rw [← rsl];exact (List.getElem?_eq_some_iff.mp hx).1
    obtain ⟨tk',htk⟩:∃ tk',h.resets[i]?=some tk':=⟨_,List.getElem?_eq_getElem hi⟩
    have gi:=Wh.rg tk' (List.mem_of_getElem? htk)
    obtain ⟨n,l,r,⟨dz,io⟩,i1,i2,i3,_⟩:=rr.at_ i x (ofReset tk') hx (by rw [List.getElem?_map,htk];rfl)
    have z1:tk'.need.length=h.props.length:=gi.need
    have z2:tk'.leave.length=h.props.length:=gi.leave
    refine ⟨_,rfl,Or.inl ⟨rfl,_,SqL.of hD⟩,_,rfl,x,_,dz,_,_,rfl,sm _ _ io,T.cl_Item,T.no_Item_minutes,rfl,by show 1≤sizeLine;decide,fun a1 n1=>?_⟩
    have t1:=sm.trans (Same.new (o:=HO.lst [V.int (tk'.minutes:Int)]) n1)
    refine ⟨_,rfl,x,_,dz,_,_,rfl,t1 _ _ io,T.cl_Item,T.no_Item_need,rfl,a1,n,_,_,rfl,rfl,upd_same,t1 _ _ i1,by rw [List.length_map];exact big (by show 1 + tk'.need.length≤1000;omega),fun a2 n2=>?_⟩
    have t2:=t1.trans (Same.new (o:=HO.lst ([V.int (tk'.minutes:Int)]++nv tk'.need)) n2)
    refine ⟨_,rfl,x,_,dz,_,_,rfl,t2 _ _ io,T.cl_Item,T.no_Item_leave,rfl,a2,l,_,_,rfl,rfl,upd_same,t2 _ _ i2,by rw [List.length_append,List.length_map,List.length_map];exact big (by show 1 + tk'.need.length + tk'.leave.length≤1000;omega),fun a3 n3=>?_⟩
    have t3:=t2.trans (Same.new (o:=HO.lst ([V.int (tk'.minutes:Int)]++nv tk'.need++nv tk'.leave)) n3)
    have hDx:=(Same.new (o:=HO.lst ([V.int (tk'.minutes:Int)]++nv tk'.need++nv tk'.leave)) n3) _ _ ((Same.new (o:=HO.lst ([V.int (tk'.minutes:Int)]++nv tk'.need)) n2) _ _ ((Same.new (o:=HO.lst [V.int (tk'.minutes:Int)]) n1) _ _ hD))
    have en:[V.int (tk'.minutes:Int)]++nv tk'.need++nv tk'.leave=(resetN tk').map V.int:=by
     unfold resetN
     rw [List.map_cons,cast]
     unfold nv
     rw [List.map_append,List.append_assoc]
     rfl
    have en':[V.int ((ofReset tk').minutes:Int)]++nv (ofReset tk').need++nv (ofReset tk').leave=(resetN tk').map V.int:=en
    have etk:(h.resets.take (i + 1)).flatMap resetN=(h.resets.take i).flatMap resetN++resetN tk':=by
     rw [List.take_add_one,htk,List.flatMap_append]
     show _++List.flatMap resetN [tk']=_
     rw [List.flatMap_singleton]
    have ltk:(resetN tk').length≤14:=by
     unfold resetN Vbcjaj.ints
     rw [List.length_cons,List.length_map,List.length_append]
     omega
    refine ⟨D,a3,_,_,rfl,rfl,hDx,upd_same,?_,?_⟩
    ·rw [en',List.length_map,List.length_map,List.length_append,List.length_append]
     have:([Vbcjaj.whole h.resets.length]:List Int).length=1:=rfl
     exact big (by omega)
    ·refine ⟨_,rfl,Same.over nDH t3,?_,?_⟩
     ·rw [upd_same,en',← List.map_append,etk];simp only [List.append_assoc]
     ·rw [etk,List.length_append]
      omega
   ·rintro σ H4 ⟨v3',rfl,s4,hD4,bd4⟩
    have efull2:h.resets.take (rs.map V.ref).length=h.resets:=by rw [List.length_map,rsl,List.take_length]
    rw [efull2] at hD4 bd4
    rw [List.length_map,rsl] at bd4
    have lb:(acc++[Vbcjaj.whole h.resets.length]++h.resets.flatMap resetN).length≤300:=by
     rw [List.length_append,List.length_append]
     have:([Vbcjaj.whole h.resets.length]:List Int).length=1:=rfl
     omega
    have hbl:=Wh.bl
    refine ⟨_,rfl,_,rfl,hs,_,dh,_,_,rfl,s4 _ _ h0,T.cl_House,T.no_House_limit,rfl,_,rfl,hs,_,dh,_,_,rfl,s4 _ _ h0,T.cl_House,T.no_House_delay,rfl,by show 2≤sizeLine;decide,fun a1 n1=>?_⟩
    have v1:=Same.new (o:=HO.lst [V.int (h.limit:Int),V.int (h.delay:Int)]) n1
    refine ⟨D,a1,_,_,rfl,rfl,v1 _ _ hD4,upd_same,by rw [List.length_map];exact big (by show _ + 2≤1000;omega),fun a2 n2=>?_⟩
    have v2:=Same.new (o:=HO.lst ((acc++[Vbcjaj.whole h.resets.length]++h.resets.flatMap resetN).map V.int++[V.int (h.limit:Int),V.int (h.delay:Int)])) n2
    have t2:=(s4.trans v1).trans v2
    refine ⟨_,rfl,hs,_,dh,_,_,rfl,t2 _ _ h0,T.cl_House,T.no_House_beliefs,rfl,a2,ba,_,_,rfl,rfl,upd_same,t2 _ _ h4,?_,?_⟩
    ·rw [List.length_append,List.length_map,List.length_map]
     exact big (by show _ + 2 + h.begin_.length≤1000;omega)
    ·refine k.one t2 _ ?_
     have e1:toldAns h=acc++[Vbcjaj.whole h.resets.length]++h.resets.flatMap resetN++[Vbcjaj.whole h.limit,Vbcjaj.whole h.delay]++Vbcjaj.ints h.begin_:=by
      rw [← eA]
      unfold toldAns
      simp only [List.append_assoc,List.cons_append,List.nil_append]
     rw [e1]
     simp only [List.map_append]
     show _=_++List.map V.int (Vbcjaj.ints h.begin_)
     rw [cast]
     rfl
end
section
variable {P:Program} {w:World} {K:PySem.W.Frag} {mg:Str→Option Value} {base:Heap} {t:Ad} {SA:SRel}
structure ArgsAt (M:List Addr) (H:Hp) (nA rA:Addr) (xs:List Int) (rows:List (List Int)) (ras:List Addr):Prop where
 nu:H nA=some (.lst (xs.map V.int))
 ro:H rA=some (.lst (ras.map V.ref))
 len:ras.length=rows.length
 at_:∀ (i:Nat) (r:Addr) (ns:List Int),ras[i]?=some r→rows[i]?=some ns→H r=some (.lst (ns.map V.int))∧r∉M∧ns.length≤1000
def spAny (t:Ad) (SA:SRel) (ok:Int→Prop):Sp:=fun vs H Q _=>∃ (M:List Addr) (ln nA rA:Addr) (s:Vbcjaj.State) (p:Int) (xs:List Int) (rows:List (List Int)) (ras:List Addr) (d:Vbcjaj.Call),vs=[.ref ln,.int p,.ref nA,.ref rA]∧ok p∧LineSt t SA M H ln s∧ArgsAt M H nA rA xs rows ras∧Shp p xs rows d∧newSt t SA M H ln (Vbcjaj.step s d) Q
theorem callOf_setup {p:Int} {xs:List Int} {rows:List (List Int)} {d:Vbcjaj.Call} (h:Shp p xs rows d) (h4:p≤4) :
  (p=0∧xs=[]∧∃ a,rows=[a]∧d=.props a)∨(p=1∧∃ m w,xs=[m,w]∧∃ a b c,rows=[a,b,c]∧d=.trick m w a b c)∨(p=2∧∃ m,xs=[m]∧∃ a b,rows=[a,b]∧d=.reset m a b)∨(p=3∧∃ m w,xs=[m,w]∧∃ a,rows=[a]∧d=.hall m w a)∨(p=4∧xs=[]∧rows=[]∧d=.told):=by
 cases h <;> first | (exfalso;omega;done) | exact Or.inl ⟨rfl,rfl,_,rfl,rfl⟩ | exact Or.inr (Or.inl ⟨rfl,_,_,rfl,_,_,_,rfl,rfl⟩) | exact Or.inr (Or.inr (Or.inl ⟨rfl,_,rfl,_,_,rfl,rfl⟩)) | exact Or.inr (Or.inr (Or.inr (Or.inl ⟨rfl,_,_,rfl,_,rfl,rfl⟩))) | exact Or.inr (Or.inr (Or.inr (Or.inr ⟨rfl,rfl,rfl,rfl⟩)))
theorem callOf_plan {p:Int} {xs:List Int} {rows:List (List Int)} {d:Vbcjaj.Call} (h:Shp p xs rows d) (h4:5≤p) (h6:p≤6) :
  (p=5∧xs=[]∧∃ a,rows=[a]∧d=.runs a)∨(p=6∧∃ m,xs=[m]∧rows=[]∧d=.plan m):=by
 cases h <;> first | (exfalso;omega;done) | exact Or.inl ⟨rfl,rfl,_,rfl,rfl⟩ | exact Or.inr ⟨rfl,_,rfl,rfl,rfl⟩
theorem ArgsAt.one {M:List Addr} {H:Hp} {nA rA:Addr} {xs:List Int} {a:List Int} {ras:List Addr} (x:ArgsAt M H nA rA xs [a] ras):∃ r,ras=[r]∧H r=some (.lst (a.map V.int))∧r∉M∧a.length≤1000:=by
 match ras,x.len,x.at_ with
 | [r],_,h=>exact ⟨r,rfl,h 0 r a rfl rfl⟩
theorem ArgsAt.two {M:List Addr} {H:Hp} {nA rA:Addr} {xs:List Int} {a b:List Int} {ras:List Addr} (x:ArgsAt M H nA rA xs [a,b] ras):∃ r q,ras=[r,q]∧(H r=some (.lst (a.map V.int))∧r∉M∧a.length≤1000)∧(H q=some (.lst (b.map V.int))∧q∉M∧b.length≤1000):=by
 match ras,x.len,x.at_ with
 | [r,q],_,h=>exact ⟨r,q,rfl,h 0 r a rfl rfl,h 1 q b rfl rfl⟩
theorem ArgsAt.three {M:List Addr} {H:Hp} {nA rA:Addr} {xs:List Int} {a b c:List Int} {ras:List Addr} (x:ArgsAt M H nA rA xs [a,b,c] ras):∃ r q z,ras=[r,q,z]∧(H r=some (.lst (a.map V.int))∧r∉M∧a.length≤1000)∧(H q=some (.lst (b.map V.int))∧q∉M∧b.length≤1000)∧(H z=some (.lst (c.map V.int))∧z∉M∧c.length≤1000):=by
 match ras,x.len,x.at_ with
 | [r,q,z],_,h=>exact ⟨r,q,z,rfl,h 0 r a rfl rfl,h 1 q b rfl rfl,h 2 z c rfl rfl⟩
abbrev nmCall:List Str:=["line","call","numbers","rows"]
theorem scPlanC:FnScope nmCall nmCall (defScope s_answer_plan_call):=⟨rfl,rfl,rfl,by decide +kernel,rfl,by decide +kernel,by decide +kernel⟩
theorem ok_planC (T:Tx K mg t) (S:Stable SA):FnOk P w K mg base CX0 7 t.f_answer_plan_call t.d_answer_plan_call nmCall (spAny t SA fun p=>5≤p∧p≤6):=by
 refine T.x_answer_plan_call.F.ok scPlanC (fun vs H Q E h=>?_) (fun cdv A outer s H vs Q E hr h=>?_)
 ·obtain ⟨M,ln,nA,rA,s,p,xs,rows,ras,d,rfl,_⟩:=h
  rfl
 ·obtain ⟨M,ln,nA,rA,st,p,xs,rows,ras,d,rfl,⟨g5,g6⟩,LS,AA,hd,k⟩:=h
  refine ⟨_,pss_cons (ps_if (pt_cmpR op_eq (pv 1) pe_int (nomark _)) (pss_one (ps_ret (pe_call (ok_runs T) (hr.mono (by decide)) rfl T.x_answer_runs.m T.x_answer_runs.F.kp T.x_answer_runs.b .nil pass0 (pa_cons (pv 0) (pa_cons (pe_ix ix_list (pv 3) pe_int (fun _ _=>rfl)) pa_nil))))) pss_nil)
   (pss_one (ps_ret (pe_call (ok_planCall T) (hr.mono (by decide)) rfl T.x_answer_plan.m T.x_answer_plan.F.kp T.x_answer_plan.b .nil pass0 (pa_cons (pv 0) (pa_cons (pe_ix ix_list (pv 2) pe_int (fun _ _=>rfl)) pa_nil))))),?_⟩
  refine ⟨_,rfl,rfl,?_⟩
  obtain ⟨lh,wf⟩:=LS.house
  rcases callOf_plan hd g5 g6 with ⟨rfl,rfl,a,rfl,rfl⟩ | ⟨rfl,m,rfl,rfl,rfl⟩
  ·refine ⟨_,rfl,iteT ?_⟩
   obtain ⟨r,rfl,h1,h2,h3⟩:=AA.one
   rw [runs_step] at k
   exact ⟨_,rfl,_,rfl,rA,_,0,.ref r,rfl,rfl,SqL.of AA.ro,rfl,M,ln,r,st.house,a,rfl,lh,wf,SqL.of h1,small_le h3,k.stay S LS⟩
  ·refine ⟨_,rfl,iteF ?_⟩
   rw [plan_step] at k
   exact ⟨_,rfl,_,rfl,nA,_,0,.int m,rfl,rfl,SqL.of AA.nu,rfl,M,ln,m,st.house,rfl,lh,wf,k.stay S LS⟩
theorem scSetC:FnScope nmCall nmCall (defScope s_answer_setup_call):=⟨rfl,rfl,rfl,by decide +kernel,rfl,by decide +kernel,by decide +kernel⟩
theorem ok_setC (T:Tx K mg t) (S:Stable SA):FnOk P w K mg base CX0 7 t.f_answer_setup_call t.d_answer_setup_call nmCall (spAny t SA fun p=>p≤4):=by
 refine T.x_answer_setup_call.F.ok scSetC (fun vs H Q E h=>?_) (fun cdv A outer s H vs Q E hr h=>?_)
 ·obtain ⟨M,ln,nA,rA,s,p,xs,rows,ras,d,rfl,_⟩:=h
  rfl
 ·obtain ⟨M,ln,nA,rA,st,p,xs,rows,ras,d,rfl,g4,LS,AA,hd,k⟩:=h
  refine ⟨_,pss_cons (ps_if (pt_cmpR op_eq (pv 1) pe_int (nomark _)) (pss_one (ps_ret (pe_call (ok_props T S) (hr.mono (by decide)) rfl T.x_answer_props.m T.x_answer_props.F.kp T.x_answer_props.b .nil pass0 (pa_cons (pv 0) (pa_cons (pe_ix ix_list (pv 3) pe_int (fun _ _=>rfl)) pa_nil))))) pss_nil)
   (pss_cons (ps_if (pt_cmpR op_eq (pv 1) pe_int (nomark _)) (pss_one (ps_ret (pe_call (ok_trick T S) (hr.mono (by decide)) rfl T.x_answer_trick.m T.x_answer_trick.F.kp T.x_answer_trick.b .nil pass0 (pa_cons (pv 0) (pa_cons (pe_ix ix_list (pv 2) pe_int (fun _ _=>rfl)) (pa_cons (pe_ix ix_list (pv 2) pe_int (fun _ _=>rfl)) (pa_cons (pe_ix ix_list (pv 3) pe_int (fun _ _=>rfl)) (pa_cons (pe_ix ix_list (pv 3) pe_int (fun _ _=>rfl)) (pa_cons (pe_ix ix_list (pv 3) pe_int (fun _ _=>rfl)) pa_nil))))))))) pss_nil)
   (pss_cons (ps_if (pt_cmpR op_eq (pv 1) pe_int (nomark _)) (pss_one (ps_ret (pe_call (ok_reset T S) (hr.mono (by decide)) rfl T.x_answer_reset.m T.x_answer_reset.F.kp T.x_answer_reset.b .nil pass0 (pa_cons (pv 0) (pa_cons (pe_ix ix_list (pv 2) pe_int (fun _ _=>rfl)) (pa_cons (pe_ix ix_list (pv 3) pe_int (fun _ _=>rfl)) (pa_cons (pe_ix ix_list (pv 3) pe_int (fun _ _=>rfl)) pa_nil))))))) pss_nil)
   (pss_cons (ps_if (pt_cmpR op_eq (pv 1) pe_int (nomark _)) (pss_one (ps_ret (pe_call (ok_hall T S) (hr.mono (by decide)) rfl T.x_answer_hall.m T.x_answer_hall.F.kp T.x_answer_hall.b .nil pass0 (pa_cons (pv 0) (pa_cons (pe_ix ix_list (pv 2) pe_int (fun _ _=>rfl)) (pa_cons (pe_ix ix_list (pv 2) pe_int (fun _ _=>rfl)) (pa_cons (pe_ix ix_list (pv 3) pe_int (fun _ _=>rfl)) pa_nil))))))) pss_nil)
   (pss_one (ps_ret (pe_call (ok_told T) (hr.mono (by decide)) rfl T.x_answer_told.m T.x_answer_told.F.kp T.x_answer_told.b .nil pass0 (pa_cons (pv 0) pa_nil))))))),?_⟩
  obtain ⟨lh,wf⟩:=LS.house
  refine ⟨_,rfl,rfl,?_⟩
  rcases callOf_setup hd g4 with ⟨rfl,rfl,a,rfl,rfl⟩ | ⟨rfl,m,x,rfl,a,b,c,rfl,rfl⟩ | ⟨rfl,m,rfl,a,b,rfl,rfl⟩ | ⟨rfl,m,x,rfl,a,rfl,rfl⟩ | ⟨rfl,rfl,rfl,rfl⟩
  ·refine ⟨_,rfl,iteT ?_⟩
   obtain ⟨r,rfl,h1,h2,h3⟩:=AA.one
   exact ⟨_,rfl,_,rfl,rA,_,0,.ref r,rfl,rfl,SqL.of AA.ro,rfl,M,ln,r,st,a,rfl,LS,h1,h2,h3,k⟩
  ·refine ⟨_,rfl,iteF ?_⟩
   refine ⟨_,rfl,rfl,_,rfl,iteT ?_⟩
   obtain ⟨r,q,z,rfl,⟨h1,h2,h3⟩,⟨g1,g2,g3⟩,⟨f1,f2,f3⟩⟩:=AA.three
   exact ⟨_,rfl,_,rfl,nA,_,0,.int m,rfl,rfl,SqL.of AA.nu,rfl,_,rfl,nA,_,1,.int x,rfl,rfl,SqL.of AA.nu,rfl,_,rfl,rA,_,0,.ref r,rfl,rfl,SqL.of AA.ro,rfl,_,rfl,rA,_,1,.ref q,rfl,rfl,SqL.of AA.ro,rfl,_,rfl,rA,_,2,.ref z,rfl,rfl,SqL.of AA.ro,rfl,M,ln,r,q,z,st,m,x,a,b,c,rfl,LS,h1,g1,f1,h2,g2,f2,h3,g3,f3,k⟩
  ·refine ⟨_,rfl,iteF ?_⟩
   refine ⟨_,rfl,rfl,_,rfl,iteF ?_⟩
   refine ⟨_,rfl,rfl,_,rfl,iteT ?_⟩
   obtain ⟨r,q,rfl,⟨h1,h2,h3⟩,⟨g1,g2,g3⟩⟩:=AA.two
   exact ⟨_,rfl,_,rfl,nA,_,0,.int m,rfl,rfl,SqL.of AA.nu,rfl,_,rfl,rA,_,0,.ref r,rfl,rfl,SqL.of AA.ro,rfl,_,rfl,rA,_,1,.ref q,rfl,rfl,SqL.of AA.ro,rfl,M,ln,r,q,st,m,a,b,rfl,LS,h1,g1,h2,g2,h3,g3,k⟩
  ·refine ⟨_,rfl,iteF ?_⟩
   refine ⟨_,rfl,rfl,_,rfl,iteF ?_⟩
   refine ⟨_,rfl,rfl,_,rfl,iteF ?_⟩
   refine ⟨_,rfl,rfl,_,rfl,iteT ?_⟩
   obtain ⟨r,rfl,h1,h2,h3⟩:=AA.one
   exact ⟨_,rfl,_,rfl,nA,_,0,.int m,rfl,rfl,SqL.of AA.nu,rfl,_,rfl,nA,_,1,.int x,rfl,rfl,SqL.of AA.nu,rfl,_,rfl,rA,_,0,.ref r,rfl,rfl,SqL.of AA.ro,rfl,M,ln,r,st,m,x,a,rfl,LS,h1,h2,h3,k⟩
  ·refine ⟨_,rfl,iteF ?_⟩
   refine ⟨_,rfl,rfl,_,rfl,iteF ?_⟩
   refine ⟨_,rfl,rfl,_,rfl,iteF ?_⟩
   refine ⟨_,rfl,rfl,_,rfl,iteF ?_⟩
   have e:Vbcjaj.step st .told=(st,toldAns st.house):=rfl
   rw [e] at k
   exact ⟨_,rfl,M,ln,st.house,rfl,lh,wf,k.stay S LS⟩
end
section
variable {P:Program} {w:World} {K:PySem.W.Frag} {mg:Str→Option Value} {base:Heap} {t:Ad} {SA:SRel}
def readerF (cl:Addr) (i:Nat):List (Str × V):=[("calls",.ref cl),("place",.int i)]
def spRInit (t:Ad):Sp:=fun vs H Q _=>∃ (x dx cl:Addr),vs=[.ref x,.ref cl]∧H x=some (.ins t.c_Reader dx [])∧Q .non (upd H x (.ins t.c_Reader dx (readerF cl 0)))
theorem scRInit:FnScope ["self","calls"] ["self","calls"] (defScope s_Reader_init):=⟨rfl,rfl,rfl,by decide +kernel,rfl,by decide +kernel,by decide +kernel⟩
theorem ok_rInit (T:Tx K mg t):FnOk P w K mg base CX0 1 t.f_Reader_init t.d_Reader_init ["self","calls"] (spRInit t):=by
 refine T.x_Reader_init.ok scRInit (fun vs H Q E h=>?_) (fun cdv A outer s H vs Q E hr h=>?_)
 ·obtain ⟨x,dx,cl,rfl,_⟩:=h
  rfl
 ·obtain ⟨x,dx,cl,rfl,hx,k⟩:=h
  refine ⟨_,pss_cons (ps_fld (pv 0) (pv 1) rfl) (pss_one (ps_fld (pv 0) pe_int rfl)),?_⟩
  refine ⟨_,rfl,_,rfl,x,_,dx,_,rfl,hx,T.cl_Reader,T.no_Reader_calls,by show 0 < 1000;decide,?_⟩
  refine ⟨_,rfl,x,_,dx,_,rfl,upd_same,T.cl_Reader,T.no_Reader_place,by show 1 < 1000;decide,?_⟩
  show Q .non _
  rw [upd_upd]
  exact k
def spAtEnd (t:Ad) (K:PySem.W.Frag):Sp:=fun vs H Q _=>∃ (x dx cl:Addr) (i:Nat) (l:List Int),vs=[.ref x]∧H x=some (.ins t.c_Reader dx (readerF cl i))∧SqL K H cl (l.map V.int)∧Q (.bl (decide (i=l.length))) H
theorem scAtEnd:FnScope ["self"] ["self"] (defScope s_Reader_at_end):=⟨rfl,rfl,rfl,by decide +kernel,rfl,by decide +kernel,by decide +kernel⟩
theorem ok_atEnd (T:Tx K mg t):FnOk P w K mg base CX0 1 t.f_Reader_at_end t.d_Reader_at_end ["self"] (spAtEnd t K):=by
 refine T.x_Reader_at_end.ok scAtEnd (fun vs H Q E h=>?_) (fun cdv A outer s H vs Q E hr h=>?_)
 ·obtain ⟨x,dx,cl,i,l,rfl,_⟩:=h
  rfl
 ·obtain ⟨x,dx,cl,i,l,rfl,hx,hl,k⟩:=h
  refine ⟨_,pss_one (ps_ret (pe_cmpR op_eq (pe_fld (pv 0) rfl) (pe_callB call_len_seq rfl T.n_len PySem.boot_len (pa_cons (pe_fld (pv 0) rfl) pa_nil)) (nomark _))),?_⟩
  refine ⟨_,rfl,x,_,dx,_,_,rfl,hx,T.cl_Reader,T.no_Reader_place,rfl,_,rfl,x,_,dx,_,_,rfl,hx,T.cl_Reader,T.no_Reader_calls,rfl,cl,_,rfl,.inl hl,rfl,?_⟩
  rw [List.length_map,dec_int_eq]
  exact k
def spTake (t:Ad) (K:PySem.W.Frag):Sp:=fun vs H Q _=>∃ (x dx cl:Addr) (i:Nat) (l:List Int) (n:Int),vs=[.ref x]∧H x=some (.ins t.c_Reader dx (readerF cl i))∧SqL K H cl (l.map V.int)∧l[i]?=some n∧Q (.int n) (upd H x (.ins t.c_Reader dx (readerF cl (i + 1))))
theorem scTake:FnScope ["self","number"] ["self"] (defScope s_Reader_take):=⟨rfl,rfl,rfl,by decide +kernel,rfl,by decide +kernel,by decide +kernel⟩
theorem atI_nat {α:Type} {xs:List α} {i:Nat} {v:α} (h:xs[i]?=some v):atI xs ((i:Nat):Int)=some v:=by
 have hi:=(List.getElem?_eq_some_iff.mp h).1
 unfold atI ixN
 rw [if_pos (by omega),if_pos (by omega)]
 exact h
theorem get_ints {l:List Int} {i:Nat} {n:Int} (h:l[i]?=some n):(l.map V.int)[i]?=some (.int n):=by
 rw [List.getElem?_map,h]
 rfl
theorem ok_take (T:Tx K mg t):FnOk P w K mg base CX0 1 t.f_Reader_take t.d_Reader_take ["self"] (spTake t K):=by
 refine T.x_Reader_take.ok scTake (fun vs H Q E h=>?_) (fun cdv A outer s H vs Q E hr h=>?_)
 ·obtain ⟨x,dx,cl,i,l,n,rfl,_⟩:=h
  rfl
 ·obtain ⟨x,dx,cl,i,l,n,rfl,hx,hl,hn,k⟩:=h
  refine ⟨_,pss_cons (ps_set (i:=1) scTake.nd rfl (Or.inl rfl) (pe_ix ix_list (pe_fld (pv 0) rfl) (pe_fld (pv 0) rfl) (fun _ _=>rfl))) (pss_cons (ps_fldaug (pv 0) pe_int in_add) (pss_one (ps_ret (pv 1)))),?_⟩
  refine ⟨_,rfl,x,_,dx,_,_,rfl,hx,T.cl_Reader,T.no_Reader_calls,rfl,_,rfl,x,_,dx,_,_,rfl,hx,T.cl_Reader,T.no_Reader_place,rfl,cl,_,_,.int n,rfl,rfl,hl,atI_nat (get_ints hn),?_⟩
  refine ⟨_,rfl,x,_,dx,_,_,rfl,hx,T.cl_Reader,T.no_Reader_place,rfl,_,_,rfl,rfl,dx,_,hx,by show 2 < 1000;decide,_,rfl,k⟩
def spTakeRow (t:Ad) (K:PySem.W.Frag):Sp:=fun vs H Q _=>∃ (x dx cl:Addr) (i n:Nat) (l:List Int),vs=[.ref x]∧H x=some (.ins t.c_Reader dx (readerF cl i))∧SqL K H cl (l.map V.int)∧(∀ o,SqL K (upd H x o) cl (l.map V.int))∧l[i]?=some ((n:Nat):Int)∧i + 1 + n≤l.length ∧
 ∀ D,H D=none→Q (.ref D) (upd (upd H x (.ins t.c_Reader dx (readerF cl (i + 1 + n)))) D (.lst (((l.drop (i + 1)).take n).map V.int)))
theorem scTakeRow:FnScope ["self","begin","end"] ["self"] (defScope s_Reader_take_row):=⟨rfl,rfl,rfl,by decide +kernel,rfl,by decide +kernel,by decide +kernel⟩
theorem ok_takeRow (T:Tx K mg t):FnOk P w K mg base CX0 1 t.f_Reader_take_row t.d_Reader_take_row ["self"] (spTakeRow t K):=by
 refine T.x_Reader_take_row.ok scTakeRow (fun vs H Q E h=>?_) (fun cdv A outer s H vs Q E hr h=>?_)
 ·obtain ⟨x,dx,cl,i,n,l,rfl,_⟩:=h
  rfl
 ·obtain ⟨x,dx,cl,i,n,l,rfl,hx,hl,hl2,hn,hle,k⟩:=h
  refine ⟨_,pss_cons (ps_set (i:=1) scTakeRow.nd rfl (Or.inl rfl) (pe_op op_add (pe_fld (pv 0) rfl) pe_int)) (pss_cons (ps_set (i:=2) scTakeRow.nd rfl (Or.inl rfl) (pe_op op_add (pv 1) (pe_ix ix_list (pe_fld (pv 0) rfl) (pe_fld (pv 0) rfl) (fun _ _=>rfl)))) (pss_cons (ps_fld (pv 0) (pv 2) rfl) (pss_one (ps_ret (pe_slice sl_list (pe_fld (pv 0) rfl) (po_some (pv 1)) (po_some (pv 2))))))),?_⟩
  refine ⟨_,rfl,x,_,dx,_,_,rfl,hx,T.cl_Reader,T.no_Reader_place,rfl,_,_,rfl,rfl,?_⟩
  refine ⟨_,rfl,_,rfl,x,_,dx,_,_,rfl,hx,T.cl_Reader,T.no_Reader_calls,rfl,_,rfl,x,_,dx,_,_,rfl,hx,T.cl_Reader,T.no_Reader_place,rfl,cl,_,_,.int n,rfl,rfl,hl,atI_nat (get_ints hn),_,_,rfl,rfl,?_⟩
  refine ⟨_,rfl,_,rfl,x,_,dx,_,rfl,hx,T.cl_Reader,T.no_Reader_place,by show 2 < 1000;decide,?_⟩
  refine ⟨_,rfl,x,_,dx,_,_,rfl,upd_same,T.cl_Reader,T.no_Reader_calls,rfl,_,rfl,_,rfl,_,rfl,_,rfl,cl,_,rfl,hl2 _,fun D nD=>?_⟩
  have nD2:H D=none:=by
   by_cases z:D=x
   ·rw [z,upd_same] at nD;cases nD
   ·rw [upd_ne z] at nD;exact nD
  have q:=k D nD2
  have ec:cutV (l.map V.int) (some ((i:Int) + 1)) (some ((i:Int) + 1 + (n:Int)))=((l.drop (i + 1)).take n).map V.int:=by
   unfold cutV
   have e1:HT.sIx (l.map V.int).length 0 (some ((i:Int) + 1))=i + 1:=by
    have:=HT.sIx_nat (l.map V.int).length 0 (i + 1)
    rw [Int.natCast_add] at this
    rw [show ((i:Int) + 1)=(i:Int) + ((1:Nat):Int) from rfl,this,List.length_map]
    omega
   have e2:HT.sIx (l.map V.int).length (l.map V.int).length (some ((i:Int) + 1 + (n:Int)))=i + 1 + n:=by
    have:=HT.sIx_nat (l.map V.int).length (l.map V.int).length (i + 1 + n)
    rw [Int.natCast_add,Int.natCast_add] at this
    rw [show ((i:Int) + 1 + (n:Int))=(i:Int) + ((1:Nat):Int) + (n:Int) from rfl,this,List.length_map]
    omega
   rw [e1,e2,show i + 1 + n - (i + 1)=n by omega,← List.map_drop,← List.map_take]
  show Q (.ref D) (upd (upd H x (.ins t.c_Reader dx [("calls",.ref cl),("place",.int ((i:Int) + 1 + (n:Int)))])) D (.lst (cutV (l.map V.int) (some ((i:Int) + 1)) (some ((i:Int) + 1 + (n:Int))))))
  rw [ec]
  have ei:((i:Int) + 1 + (n:Int))=((i + 1 + n:Nat):Int):=by omega
  rw [ei]
  exact q
end
section
variable {P:Program} {w:World} {K:PySem.W.Frag} {mg:Str→Option Value} {base:Heap} {t:Ad} {SA:SRel}
def spLineInit (t:Ad) (SA:SRel):Sp:=fun vs H Q _=>∃ (ln dx:Addr),vs=[.ref ln]∧H ln=some (.ins t.c_Line dx [])∧∀ H' M,LineSt t SA M H' ln Vbcjaj.start→(∀ b o,H b=some o→b≠ln→H' b=some o)→(∀ m∈M,m=ln∨H m=none)→Q .non H'
theorem scLineInit:FnScope ["self"] ["self"] (defScope s_Line_init):=⟨rfl,rfl,rfl,by decide +kernel,rfl,by decide +kernel,by decide +kernel⟩
theorem ok_lineInit (T:Tx K mg t):FnOk P w K mg base CX0 4 t.f_Line_init t.d_Line_init ["self"] (spLineInit t SA):=by
 refine T.x_Line_init.ok scLineInit (fun vs H Q E h=>?_) (fun cdv A outer s H vs Q E hr h=>?_)
 ·obtain ⟨ln,dx,rfl,_⟩:=h
  rfl
 ·obtain ⟨ln,dx,rfl,hln,k⟩:=h
  refine ⟨_,pss_cons (ps_fld (pv 0) (pe_make T.mk_House (ok_houseInit T) hr rfl T.mg_House T.b_House_init .nil pass0 (pa_cons (pe_lst (pa_cons pe_int pa_nil)) pa_nil)) rfl)
   (pss_one (ps_fld (pv 0) pe_non rfl)),?_⟩
  refine ⟨by show 1≤sizeLine;decide,fun l nl x dx' nx nd ne=>?_⟩
  have s1:Same H (upd H l (.lst [V.int 2])):=Same.new nl
  have hl1:upd H l (.lst [V.int 2]) l=some (.lst (nv [2])):=upd_same
  generalize upd H l (.lst [V.int 2])=H1 at s1 hl1 nx nd ⊢
  have sm2:Same H1 (upd (upd H1 dx' (.own x)) x (.ins t.c_House dx' [])):=fun b o q=>by rw [upd_ne (ne_of_none q nx),upd_ne (ne_of_none q nd)];exact q
  refine ⟨x,dx',l,[2],rfl,upd_same,sm2 _ _ hl1,fun c hc=>by simp at hc;omega,by show 1≤sizeLine;decide,fun H3 ta' ra' ba' NH=>⟨rfl,?_⟩⟩
  have k3:Same H1 H3:=fun b o q=>NH.kp b o (sm2 b o q) (ne_of_none q nx)
  have hob:=s1 _ _ hln
  have nln:ln≠x:=ne_of_none hob nx
  have lln:l≠ln:=fun z=>by rw [z,hln] at nl;cases nl
  have fresh2:∀ {c:Addr},upd (upd H1 dx' (.own x)) x (.ins t.c_House dx' []) c=none→H1 c=none:=fun {c} hc=>sm2.free hc
  have xt:ta'≠x:=fun z=>by have q:=NH.nt;rw [z,upd_same] at q;cases q
  have xr:ra'≠x:=fun z=>by have q:=NH.nr;rw [z,upd_same] at q;cases q
  have xb:ba'≠x:=fun z=>by have q:=NH.nb;rw [z,upd_same] at q;cases q
  have lt:ln≠ta':=ne_of_none hob (fresh2 NH.nt)
  have lr:ln≠ra':=ne_of_none hob (fresh2 NH.nr)
  have lb:ln≠ba':=ne_of_none hob (fresh2 NH.nb)
  refine ⟨_,rfl,ln,_,dx,_,rfl,k3 _ _ hob,T.cl_Line,T.no_Line_house,by show 0 < 1000;decide,?_⟩
  refine ⟨_,rfl,ln,_,dx,_,rfl,upd_same,T.cl_Line,T.no_Line_show,by show 1 < 1000;decide,?_⟩
  rw [upd_upd]
  have fin:∀ b o,H3 b=some o→b≠ln→upd H3 ln (.ins t.c_Line dx (lineF x .non)) b=some o:=fun b o q hb=>by
   rw [upd_ne hb]
   exact q
  refine k _ [ln,x,ta',ra'] ⟨dx,x,.non,l,ta',ra',ba',[],[],[],rfl,?_⟩ ?_ ?_
  ·refine ⟨by rw [upd_same];rfl,⟨⟨dx',fin _ _ NH.ob nln.symm⟩,fin _ _ (k3 _ _ hl1) lln,fin _ _ NH.ht lt.symm,fin _ _ NH.hr lr.symm,fin _ _ NH.hb lb.symm,⟨rfl,fun i y it h1=>by simp at h1⟩,⟨rfl,fun i y it h1=>by simp at h1⟩,?_,?_⟩,newHouse_wf (by decide) (by decide),?_,rfl,rfl⟩
   ·simp only [List.mem_cons,List.not_mem_nil,or_false,not_or]
    exact ⟨lln,ne_of_none hl1 nx,ne_of_none hl1 (fresh2 NH.nt),ne_of_none hl1 (fresh2 NH.nr)⟩
   ·simp only [List.mem_cons,List.not_mem_nil,or_false,not_or]
    exact ⟨lb.symm,xb,NH.tb.symm,NH.rb.symm⟩
   ·simp only [List.nodup_cons,List.mem_cons,List.not_mem_nil,or_false,not_or,not_false_eq_true,List.nodup_nil,and_true]
    exact ⟨⟨nln,lt,lr⟩,⟨xt.symm,xr.symm⟩,NH.tr⟩
  ·intro b o q hb
   exact fin _ _ (k3 _ _ (s1 _ _ q)) hb
  ·intro m hm
   simp only [List.mem_cons,List.not_mem_nil,or_false] at hm
   rcases hm with rfl | rfl | rfl | rfl
   ·exact .inl rfl
   ·exact .inr (s1.free nx)
   ·exact .inr (s1.free (fresh2 NH.nt))
   ·exact .inr (s1.free (fresh2 NH.nr))
end
end Cs
namespace L2
open PySem PySem.Spec PyProof.Rows
structure ModD (K:PySem.W.Frag) (a:Addr) (f:Int→Option Value):Prop where
 has:∃ o es ep,K.lookup a=some o∧o.ExactDict∧o.data=.dict es ep∧(∀ e∈es,∃ k t,e.key=.int k t∧e.hash=hashInt k)∧∀ k,findBy keyIs es (.inl k)=f k
def rIxM (K:PySem.W.Frag):R2:=fun x y H Q=>∃ a k f v v',x=.ref a∧y=.int k∧ModD K a f∧f k=some v'∧RelV v v'∧Q v H
theorem ix_mod {X:Cx}:IxR X (rIxM X.K):=by
 intro value slice pins s σ H x y v u Q I rx ry h hs
 obtain ⟨a,k,f,z,z',rfl,rfl,⟨o,es,ep,hk,ed,hd,ks,hf⟩,fk,rz,q⟩:=h
 cases rx
 obtain ⟨t,rfl⟩:=ry
 have hget:s.heap.get? a=some o:=I.kIn a o hk
 have mo:s.heap.MapOf (mixKind X.prog X.w) a (fun k=>findBy keyIs es k):=⟨o,es,ep,hget,ed,hd,fun e he=>by
  obtain ⟨k,t,e1,e2⟩:=ks e he
  exact ⟨.inl k,by rw [e1];exact mixKind_int X.prog X.w k t,e2⟩,fun _=>rfl⟩
 exact subscriptTail_builtinR (x:=z') ⟨o,hget,ed.1⟩ PySem.F.slot_dict_getitem.lookup (wpAny_getItem_of (Q:=fun r s'=>r=z'∧EP X pins σ Q r s') (mixKind_int X.prog X.w k t) mo ((hf k).trans fk) ⟨rfl,z,H,I.tok _,rz,q⟩) hs
end L2
namespace Cs
open PySem PySem.Spec PyProof.Rows L2
def Mp (K:PySem.W.Frag) (mg:Str→Option Value) (x:Str) (ks:List (Int × List Int)):Prop:=∃ a f,mg x=some (.ref a)∧ModD K a f∧∀ k ns,ks.lookup k=some ns→∃ U,f k=some (.ref U)∧∀ H,SqT K H U (ns.map V.int)
theorem calls_step {shape:Int→Option (Nat × Nat)} {f:Nat} {p:Int} {r:List Int} {cs:List (List (List Int))} (h:PyFlat.calls shape f (p::r)=some cs):∃ f' n k xs t cs',f=f' + 1∧shape p=some (n,k)∧n≤r.length∧PyFlat.rows k (r.drop n)=some (xs,t)∧cs=((p::r.take n)::xs)::cs'∧PyFlat.calls shape f' t=some cs':=by
 cases f with
 | zero=>cases h
 | succ f =>
  unfold PyFlat.calls PyFlat.call at h
  dsimp only at h
  cases hs:shape p with
  | none=>rw [hs] at h;cases h
  | some nk =>
   obtain ⟨n,k⟩:=nk
   rw [hs] at h
   dsimp only at h
   by_cases hl:r.length < n
   ·rw [if_pos hl] at h;cases h
   ·rw [if_neg hl] at h
    cases hr:PyFlat.rows k (r.drop n) with
    | none=>rw [hr] at h;cases h
    | some xt =>
     obtain ⟨xs,t⟩:=xt
     rw [hr] at h
     dsimp only at h
     cases hc:PyFlat.calls shape f t with
     | none=>rw [hc] at h;cases h
     | some cs' =>
      rw [hc] at h
      cases h
      exact ⟨f,n,k,xs,t,cs',rfl,rfl,by omega,hr,rfl,hc⟩
theorem rows_step {k:Nat} {r:List Int} {xs:List (List Int)} {t:List Int} (h:PyFlat.rows (k + 1) r=some (xs,t)):∃ (n:Nat) (r':List Int) (xs':List (List Int)),r=(n:Int)::r'∧n≤r'.length∧xs=r'.take n::xs'∧PyFlat.rows k (r'.drop n)=some (xs',t):=by
 unfold PyFlat.rows at h
 cases r with
 | nil=>cases h
 | cons a r' =>
  unfold PyFlat.row at h
  dsimp only at h
  by_cases ha:0≤a∧a.toNat≤r'.length
  ·rw [if_pos ha] at h
   dsimp only at h
   cases hc:PyFlat.rows k (r'.drop a.toNat) with
   | none=>rw [hc] at h;cases h
   | some xt =>
    obtain ⟨xs',t'⟩:=xt
    rw [hc] at h
    cases h
    exact ⟨a.toNat,r',xs',by rw [show ((a.toNat:Nat):Int)=a by omega],ha.2,rfl,hc⟩
  ·rw [if_neg ha] at h;cases h
theorem rows_len:∀ {k:Nat} {r:List Int} {xs:List (List Int)} {t:List Int},PyFlat.rows k r=some (xs,t)→xs.length=k
 | 0,r,xs,t,h=>by cases h;rfl
 | k + 1,r,xs,t,h=>by
  obtain ⟨n,r',xs',rfl,hn,rfl,h'⟩:=rows_step h
  rw [List.length_cons,rows_len h']
theorem calls_shaped:∀ (f:Nat) {l:List Int} {cs:List (List (List Int))},PyFlat.calls PyVbcjaj.shape f l=some cs→∀ c∈cs,∃ p xs rows d,c=(p::xs)::rows∧Shp p xs rows d:=by
 intro f
 induction f with
 | zero =>
  intro l cs h c hc
  cases l with
  | nil=>cases h;cases hc
  | cons p r=>cases h
 | succ f ih =>
  intro l cs h c hc
  cases l with
  | nil=>cases h;cases hc
  | cons p r =>
   obtain ⟨f',n,k,xs,t,cs',e,hs,hn,hr,rfl,hpc⟩:=calls_step h
   have e':f=f':=by omega
   subst e'
   rcases List.mem_cons.mp hc with rfl | hc
   ·obtain ⟨d,hS⟩:=shp_of hs (xs:=r.take n) (by rw [List.length_take];omega) (rows_len hr)
    exact ⟨p,_,_,d,rfl,hS⟩
   ·exact ih hpc c hc
theorem step_call {s:Vbcjaj.State} {c:List (List Int)} {d:Vbcjaj.Call} (h:VbcjajNeutral.callOf c=some d):VbcjajNeutral.step s c=Vbcjaj.step s d:=by
 unfold VbcjajNeutral.step
 rw [h]
def rest (s:Vbcjaj.State) (cs:List (List (List Int))):List Int:=PyFlat.told (PyFlat.played VbcjajNeutral.step s cs)
theorem rest_cons {s:Vbcjaj.State} {c:List (List Int)} {cs:List (List (List Int))} {d:Vbcjaj.Call} (h:VbcjajNeutral.callOf c=some d):rest s (c::cs)=(((Vbcjaj.step s d).2.length:Int)::(Vbcjaj.step s d).2)++rest (Vbcjaj.step s d).1 cs:=by
 unfold rest
 have e:PyFlat.played VbcjajNeutral.step s (c::cs)=(VbcjajNeutral.step s c).2::PyFlat.played VbcjajNeutral.step (VbcjajNeutral.step s c).1 cs:=rfl
 rw [e,step_call h]
 unfold PyFlat.told
 rw [List.flatMap_cons]
section
variable {P:Program} {w:World} {K:PySem.W.Frag} {mg:Str→Option Value} {base:Heap} {t:Ad} {SA:SRel}
def InL (K:PySem.W.Frag) (M:List Addr) (H:Hp) (cl:Addr) (xs:List V):Prop:=(∀ H',SqL K H' cl xs)∨((∃ o,H cl=some (.frz o (.lst xs)))∧cl∉M)
theorem InL.sq {M:List Addr} {H:Hp} {cl:Addr} {xs:List V} (h:InL K M H cl xs):SqL K H cl xs:=by
 rcases h with h | ⟨⟨o,h⟩,_⟩
 ·exact h H
 ·exact .inl (.inr ⟨o,h⟩)
theorem InL.go {M:List Addr} {H H':Hp} {cl:Addr} {xs:List V} (h:InL K M H cl xs) (e:∀ o u,H cl=some (.frz o u)→H' cl=some (.frz o u)):InL K M H' cl xs:=by
 rcases h with h | ⟨⟨o,h⟩,n⟩
 ·exact .inl h
 ·exact .inr ⟨⟨o,e _ _ h⟩,n⟩
def Off (d:Addr) (H H':Hp):Prop:=∀ b o,H b=some o→b≠d→H' b=some o
theorem Off.trans {d:Addr} {H H1 H2:Hp} (a:Off d H H1) (b:Off d H1 H2):Off d H H2:=fun c o e m=>b c o (a c o e m) m
theorem Off.upd {d:Addr} {H:Hp} {o:HO}:Off d H (upd H d o):=fun b u q n=>by rw [upd_ne n];exact q
theorem Off.new {d D:Addr} {H:Hp} {o:HO} (h:H D=none):Off d H (L2.upd H D o):=fun b u q _=>by rw [upd_ne (ne_of_none q h)];exact q
theorem Off.over {d D:Addr} {H H':Hp} {o:HO} (e:Off d H H') (h:H D=none):Off d H (L2.upd H' D o):=fun b u q n=>by rw [upd_ne (ne_of_none q h)];exact e b u q n
theorem Off.in_ {d:Addr} {H H':Hp} (e:Off d H H') {M:List Addr} {cl:Addr} {xs:List V} {C dx:Addr} {fs:List (Str × V)} (hd:H d=some (.ins C dx fs)) (h:InL K M H cl xs):InL K M H' cl xs :=
 h.go fun o u q=>e _ _ q (fun z=>by rw [z,hd] at q;cases q)
theorem drop_cons {l:List Int} {i:Nat} {a:Int} {r:List Int} (h:l.drop i=a::r):l[i]?=some a∧r=l.drop (i + 1)∧i < l.length:=by
 have hi:i < l.length:=by
  cases Nat.lt_or_ge i l.length with
  | inl h=>exact h
  | inr g=>rw [List.drop_of_length_le g] at h;cases h
 rw [List.drop_eq_getElem_cons hi] at h
 cases h
 exact ⟨List.getElem?_eq_getElem hi,rfl,hi⟩
theorem shape_small {p:Int} {n k:Nat} (h:PyVbcjaj.shape p=some (n,k)):n≤2∧k≤3:=by
 obtain ⟨d,hS⟩:=shp_of h (xs:=List.replicate n 0) (rows:=List.replicate k []) (List.length_replicate) (List.length_replicate)
 have e1:∀ {xs:List Int} {rows:List (List Int)},Shp p xs rows d→xs.length≤2∧rows.length≤3:=fun h=>by cases h <;> exact ⟨Nat.le_of_ble_eq_true rfl,Nat.le_of_ble_eq_true rfl⟩
 have q:=e1 hS
 rw [List.length_replicate,List.length_replicate] at q
 exact q
def LineX (t:Ad) (SA:SRel) (rd gv:Addr) (M:List Addr) (H:Hp) (ln:Addr) (s:Vbcjaj.State):Prop:=∀ H',(∀ b o,H b=some o→b≠rd→b≠gv→H' b=some o)→LineSt t SA M H' ln s
def spAnswers (K:PySem.W.Frag):Sp:=fun vs H Q _=>∃ (cl:Addr) (l:List Int),vs=[.ref cl]∧InL K [] H cl (l.map V.int)∧PyVbcjaj.answers_asked l=true∧l.length≤sizeLine∧∀ H' D,H' D=some (.lst ((PyVbcjaj.answers l).map V.int))→Q (.ref D) H'
abbrev nmAns:List Str:=["calls","line","reader","given","call","shape","numbers","rows","answer","turn"]
theorem scAns:FnScope nmAns ["calls"] (defScope s_answers):=⟨rfl,rfl,rfl,by decide +kernel,rfl,by decide +kernel,by decide +kernel⟩
structure Head (t:Ad) (SA:SRel) (K:PySem.W.Frag) (l:List Int) (cl ln rd gv:Addr) (H:Hp) (i f:Nat) (cs:List (List (List Int))) (s:Vbcjaj.State) (M:List Addr) (gs:List Int) (dxr:Addr):Prop where
 pc:PyFlat.calls PyVbcjaj.shape f (l.drop i)=some cs
 il:i≤l.length
 an:gs++rest s cs=PyVbcjaj.answers l
 lx:LineX t SA rd gv M H ln s
 rd_:H rd=some (.ins t.c_Reader dxr (readerF cl i))
 rm:rd∉M
 gv_:H gv=some (.lst (gs.map V.int))
 gm:gv∉M
 cl_:InL K M H cl (l.map V.int)
 ok:∀ c∈cs,VbcjajNeutral.asked1 c=true
theorem ok_answers {ks:List (Int × List Int)} {kc:Nat} (T:Tx K mg t) (S:Stable SA) (C:FnOk P w K mg base CX0 (kc + 5) t.f_answer_call t.d_answer_call nmCall (spAny t SA fun _=>True)) (hD:Mp K mg "SHAPES" ks)
  (hks:∀ p n k,PyVbcjaj.shape p=some (n,k)→ks.lookup p=some [(n:Int),(k:Int)]):FnOk P w K mg base CX0 (kc + 6) t.f_answers t.d_answers ["calls"] (spAnswers K):=by
 refine T.x_answers.F.ok scAns (fun vs H Q E h=>?_) (fun cdv A outer s H vs Q E hr h=>?_)
 ·obtain ⟨cl,l,rfl,_⟩:=h
  rfl
 ·obtain ⟨cl,l,rfl,hcl,asked,hz,k⟩:=h
  obtain ⟨sh,shf,sm_,shM,sht⟩:=hD
  refine ⟨_,pss_cons (ps_set (i:=1) scAns.nd rfl (Or.inl rfl) (pe_make0 T.mk_Line (ok_lineInit (SA:=SA) T) (hr.mono (by omega)) rfl T.mg_Line T.b_Line_init .nil pass0))
   (pss_cons (ps_set (i:=2) scAns.nd rfl (Or.inr rfl) (pe_make T.mk_Reader (ok_rInit T) (hr.mono (by omega)) rfl T.mg_Reader T.b_Reader_init .nil pass0 (pa_cons (pv 0) pa_nil)))
   (pss_cons (ps_set (i:=3) scAns.nd rfl (Or.inl rfl) (pe_lst pa_nil))
   (pss_cons (ps_while PassesOwn.never (pt_not (pt_val (pe_meth0 (pv 2) T.cl_Reader T.m_Reader_at_end (ok_atEnd T) (hr.mono (by omega)) T.b_Reader_at_end .nil pass0)))
    (pss_cons (ps_set (i:=4) scAns.nd rfl (Or.inl rfl) (pe_meth0 (pv 2) T.cl_Reader T.m_Reader_take (ok_take T) (hr.mono (by omega)) T.b_Reader_take .nil pass0))
    (pss_cons (ps_set (i:=5) scAns.nd rfl (Or.inl rfl) (pe_ix ix_mod (pe_const (v:=.ref sh) rfl ⟨_,sm_,rfl⟩) (pv 4) (fun _ _=>rfl)))
    (pss_cons (ps_setLc (i:=6) (own:=[("turn",9)]) rfl scAns.nd rfl rfl (sw_true rfl rfl (by rfl) (by rfl)) (pi_range1 rfl T.n_range (pa_cons (pe_ix ix_tup (pv 5) pe_int (fun _ _=>rfl)) pa_nil)) (blkOk_by (show blkC nmAns (defScope s_answers) _ _=true by decide +kernel)) (fun _ _ _ _ _=>pg_name (i:=9) scAns.nd rfl (Or.inl rfl)) (fun _ _ _ _ _=>pts_nil)
     (fun _ _ _ _ _=>pe_meth0 (pv 2) T.cl_Reader T.m_Reader_take (ok_take T) (hr.mono (by omega)) T.b_Reader_take .nil pass0))
    (pss_cons (ps_setLc (i:=7) (own:=[("turn",9)]) rfl scAns.nd rfl rfl (sw_true rfl rfl (by rfl) (by rfl)) (pi_range1 rfl T.n_range (pa_cons (pe_ix ix_tup (pv 5) pe_int (fun _ _=>rfl)) pa_nil)) (blkOk_by (show blkC nmAns (defScope s_answers) _ _=true by decide +kernel)) (fun _ _ _ _ _=>pg_name (i:=9) scAns.nd rfl (Or.inl rfl)) (fun _ _ _ _ _=>pts_nil)
     (fun _ _ _ _ _=>pe_meth0 (pv 2) T.cl_Reader T.m_Reader_take_row (ok_takeRow T) (hr.mono (by omega)) T.b_Reader_take_row .nil pass0))
    (pss_cons (ps_set (i:=8) scAns.nd rfl (Or.inl rfl) (pe_lock (pe_lock (pe_call C hr rfl T.x_answer_call.m T.x_answer_call.F.kp T.x_answer_call.b .nil pass0 (pa_cons (pv 1) (pa_cons (pv 4) (pa_cons (pv 6) (pa_cons (pv 7) pa_nil))))))))
    (pss_cons (ps_expr (pe_bm PySem.F.plainAttrs_list PySem.F.slot_list_append PySem.F.type_list_append mt_append (pv 3) (pa_cons (pe_callB call_len_seq rfl T.n_len PySem.boot_len (pa_cons (pv 8) pa_nil)) pa_nil)))
    (pss_one (ps_expr (pe_bm PySem.F.plainAttrs_list PySem.F.slot_list_extend PySem.F.type_list_extend mt_extend (pv 3) (pa_cons (pv 8) pa_nil)))))))))))
   (pss_one (ps_ret (pv 3)))))),?_⟩
  unfold PyVbcjaj.answers_asked at asked
  cases hraw:PyFlat.calls PyVbcjaj.shape l.length l with
  | none=>rw [hraw] at asked;cases asked
  | some raw =>
  rw [hraw] at asked
  simp only [Bool.and_eq_true] at asked
  obtain ⟨⟨_,hasked⟩,hshort⟩:=asked
  have emap:raw.map PyVbcjaj.whole=raw:=by
   rw [List.map_congr_left (g:=id) (fun c hc=>by obtain ⟨p,xs,rows,d,rfl,hS⟩:=calls_shaped _ hraw c hc;exact hS.whole),List.map_id]
  rw [emap] at hasked
  have eans:rest Vbcjaj.start raw=PyVbcjaj.answers l:=by
   unfold PyVbcjaj.answers PyVbcjaj.calls
   rw [hraw]
   show _=PyFlat.told (PyFlat.played _ _ (raw.map PyVbcjaj.whole))
   rw [emap]
   rfl
  have hshort:(PyVbcjaj.answers l).length≤10000000:=of_decide_eq_true hshort
  have hbig:∀ {c:Nat},c≤10000000→c≤sizeLine:=fun h=>by rw [sizeLine_eq];omega
  have hone:∀ c∈raw,VbcjajNeutral.asked1 c=true:=by
   unfold VbcjajNeutral.asked at hasked
   rw [Bool.and_eq_true] at hasked
   exact List.all_eq_true.mp hasked.1
  intro ln dl nln ndl nel
  have sm1:Same H (upd (upd H dl (.own ln)) ln (.ins t.c_Line dl [])):=fun b o q=>by rw [upd_ne (ne_of_none q nln),upd_ne (ne_of_none q ndl)];exact q
  refine ⟨ln,dl,rfl,upd_same,fun H1 M LS1 kp1 mM=>⟨rfl,?_⟩⟩
  have s1:Same H H1:=fun b o q=>kp1 b o (sm1 b o q) (ne_of_none q nln)
  refine ⟨_,rfl,fun rd dr nrd ndr ner=>?_⟩
  refine ⟨rd,dr,cl,rfl,upd_same,rfl,?_⟩
  rw [upd_upd]
  refine ⟨Nat.zero_le _,fun gv ngv=>?_⟩
  have thM:=LS1.there S
  have gr:gv≠rd:=fun z=>by rw [z,upd_same] at ngv;cases ngv
  rw [upd_ne gr] at ngv
  have gdr:gv≠dr:=fun z=>by rw [z,upd_same] at ngv;cases ngv
  rw [upd_ne gdr] at ngv
  refine ⟨fun m σ H'=>∃ i f cs s M gs dxr v4 v5 v6 v7 v8,m=l.length - i∧σ=[some (.ref cl),some (.ref ln),some (.ref rd),some (.ref gv),v4,v5,v6,v7,v8,none]∧Head t SA K l cl ln rd gv H' i f cs s M gs dxr,⟨l.length,0,l.length,raw,Vbcjaj.start,M,[],dr,none,none,none,none,none,rfl,rfl,?_⟩,?_⟩
  ·refine ⟨hraw,Nat.zero_le _,eans,fun H' e=>LS1.same S fun b o q=>?_,by rw [upd_ne gr.symm,upd_same],thM.not nrd,upd_same,thM.not ngv,?_,hone⟩
   ·have b1:b≠rd:=ne_of_none q nrd
    have b2:b≠gv:=ne_of_none q ngv
    refine e b o ?_ b1 b2
    rw [upd_ne b2,upd_ne b1,upd_ne (ne_of_none q ndr)]
    exact q
   ·rcases hcl with h | ⟨⟨o,h⟩,_⟩
    ·exact .inl h
    ·have h1:=s1 _ _ h
     refine .inr ⟨⟨o,?_⟩,fun z=>?_⟩
     ·rw [upd_ne (ne_of_none h1 ngv),upd_ne (ne_of_none h1 nrd),upd_ne (ne_of_none h1 ndr)]
      exact h1
     ·rcases mM cl z with z | z
      ·rw [← z,h] at nln;cases nln
      ·rw [sm1 _ _ h] at z;cases z
  ·rintro m σ H0 ⟨i,f,cs,st,M,gs,dxr,v4,v5,v6,v7,v8,rfl,rfl,hd⟩
   refine ⟨_,rfl,rd,dxr,_,rfl,hd.rd_,rfl,rd,dxr,cl,i,l,rfl,hd.rd_,hd.cl_.sq,_,rfl,?_⟩
   cases hdr:l.drop i with
   | nil =>
    have hil:i=l.length:=by
     have:=hd.il
     have e:=congrArg List.length hdr
     rw [List.length_drop,List.length_nil] at e
     omega
    rw [decide_eq_true hil]
    refine iteF ?_
    have hpc:=hd.pc
    rw [hdr] at hpc
    have ecs:cs=[]:=by
     unfold PyFlat.calls at hpc
     cases hpc
     rfl
    have han:=hd.an
    rw [ecs] at han
    have erest:rest st []=[]:=rfl
    rw [erest,List.append_nil] at han
    refine ⟨_,rfl,k _ gv ?_⟩
    rw [← han]
    exact hd.gv_
   | cons p r =>
    obtain ⟨hp,hrr,hil⟩:=drop_cons hdr
    rw [decide_eq_false (by omega)]
    refine iteT ?_
    have hpc:=hd.pc
    rw [hdr] at hpc
    obtain ⟨f',n,kk,xs,tl,cs',rfl,hsh,hn,hrows,rfl,hpc'⟩:=calls_step hpc
    obtain ⟨hn2,hk3⟩:=shape_small hsh
    obtain ⟨U,hfU,hU⟩:=sht p _ (hks p n kk hsh)
    obtain ⟨d,hS⟩:=shp_of hsh (xs:=r.take n) (by rw [List.length_take];omega) (rows_len hrows)
    have hcall:=hS.call
    have h30:=hS.short (hd.ok _ List.mem_cons_self)
    refine ⟨_,fun σ' H' z=>z,?_⟩
    refine ⟨_,rfl,rd,dxr,_,rfl,hd.rd_,rfl,rd,dxr,cl,i,l,p,rfl,hd.rd_,hd.cl_.sq,hp,?_⟩
    refine ⟨_,rfl,sh,p,shf,.ref U,_,rfl,rfl,shM,hfU,rfl,?_⟩
    refine ⟨_,rfl,U,_,0,.int n,rfl,rfl,hU _,rfl,n,rfl,by omega,by omega,fun nA nnA=>?_⟩
    have hrl:r.length=l.length - (i + 1):=by rw [hrr,List.length_drop]
    have nrA:nA≠rd:=fun z=>by rw [z,upd_same] at nnA;cases nnA
    have nA0:H0 nA=none:=by rw [upd_ne nrA] at nnA;exact nnA
    have ent:((n:Nat):Int).toNat=n:=by omega
    refine lc_range (n:=((n:Nat):Int).toNat) (fun j H'=>Off rd H0 H'∧H' rd=some (.ins t.c_Reader dxr (readerF cl (i + 1 + j)))∧H' nA=some (.lst ((r.take j).map V.int))) ⟨Off.upd.over nA0,by rw [upd_ne nrA.symm,upd_same],by rw [upd_same];rfl⟩ (fun j H' hj pv_=>?_) (fun H2 pv_=>?_)
    ·obtain ⟨of,hrd',hnA'⟩:=pv_
     rw [ent] at hj
     have hj2:j < r.length:=by omega
     have hx:l[i + 1 + j]?=some r[j]:=by
      rw [← List.getElem?_drop,← hrr]
      exact List.getElem?_eq_getElem hj2
     have sq:=(of.in_ hd.rd_ hd.cl_).sq
     refine ⟨rfl,?_⟩
     refine ⟨_,rfl,rd,dxr,_,rfl,hrd',rfl,rd,dxr,cl,i + 1 + j,l,r[j],rfl,hrd',sq,hx,_,by rw [upd_ne nrA];exact hnA',?_,?_,?_,?_⟩
     ·rw [List.length_map,List.length_take]
      exact Nat.lt_of_lt_of_le (by omega) hz
     ·exact (of.trans Off.upd).over nA0
     ·rw [upd_ne nrA.symm,upd_same]
      rfl
     ·rw [upd_same,List.take_add_one,List.getElem?_eq_getElem hj2,List.map_append]
      rfl
    ·obtain ⟨of2,hrd2,hnA2⟩:=pv_
     rw [ent] at hrd2 hnA2
     refine ⟨_,rfl,U,_,1,.int kk,rfl,rfl,hU _,rfl,kk,rfl,by omega,by omega,fun rA nrA2=>?_⟩
     have rrA:rA≠rd:=fun z=>by rw [z,hrd2] at nrA2;cases nrA2
     have nrA0:H0 rA=none:=by
      cases q:H0 rA with
      | none=>rfl
      | some o=>rw [of2 _ _ q rrA] at nrA2;cases nrA2
     have eki:((kk:Nat):Int).toNat=kk:=by omega
     have hin2:=of2.in_ hd.rd_ hd.cl_
     refine lc_range (n:=((kk:Nat):Int).toNat) (fun j H'=>Off rd H2 H'∧∃ (ij:Nat) (ras:List Addr) (dn rs:List (List Int)),H' rd=some (.ins t.c_Reader dxr (readerF cl ij))∧i + 1≤ij∧ij≤l.length∧xs=dn++rs∧dn.length=j∧PyFlat.rows (kk - j) (l.drop ij)=some (rs,tl)∧H' rA=some (.lst (ras.map V.ref))∧ras.length=j∧rA∉ras∧(∀ x∈ras,H0 x=none)∧∀ (q:Nat) (a:Addr) (ns:List Int),ras[q]?=some a→dn[q]?=some ns→H' a=some (.lst (ns.map V.int)))
      ⟨Off.new nrA2,i + 1 + n,[],[],xs,by rw [upd_ne rrA.symm];exact hrd2,by omega,by omega,rfl,rfl,?_,by rw [upd_same];rfl,rfl,(fun z=>nomatch z),(fun _ z=>nomatch z),fun q a ns z=>by simp at z⟩ (fun j H' hj pv_=>?_) (fun H3 pv_=>?_)
     ·rw [← List.drop_drop,← hrr]
      exact hrows
     ·obtain ⟨of,ij,ras,dn,rs,hrd',hi1,hil',exs,edn,hro,hrA',elen,hnot,hfr,hat⟩:=pv_
      rw [eki] at hj
      rw [show kk - j=(kk - (j + 1)) + 1 by omega] at hro
      obtain ⟨n',r',xs',edrop,hn',rfl,hro'⟩:=rows_step hro
      obtain ⟨hget,er',hij⟩:=drop_cons edrop
      have hr'l:r'.length=l.length - (ij + 1):=by rw [er',List.length_drop]
      have hin:=of.in_ hrd2 hin2
      refine ⟨rfl,?_⟩
      refine ⟨_,rfl,rd,dxr,_,rfl,hrd',rfl,rd,dxr,cl,ij,n',l,rfl,hrd',hin.sq,(fun o=>((Off.upd (o:=o)).in_ hrd' hin).sq),hget,by omega,fun D nD=>?_⟩
      have Drd:D≠rd:=fun z=>by rw [z,hrd'] at nD;cases nD
      have DrA:D≠rA:=fun z=>by rw [z,hrA'] at nD;cases nD
      have D2:H2 D=none:=by
       cases q:H2 D with
       | none=>rfl
       | some o=>rw [of _ _ q Drd] at nD;cases nD
      have D0:H0 D=none:=by
       cases q:H0 D with
       | none=>rfl
       | some o=>rw [of2 _ _ q Drd] at D2;cases D2
      refine ⟨_,by rw [upd_ne DrA.symm,upd_ne rrA];exact hrA',?_,?_,ij + 1 + n',ras++[D],dn++[r'.take n'],xs',?_,by omega,by omega,?_,?_,?_,?_,?_,?_,?_,?_⟩
      ·rw [List.length_map]
       exact small1000 (by omega)
      ·exact ((of.trans Off.upd).over D2).over nrA2
      ·rw [upd_ne rrA.symm,upd_ne Drd.symm,upd_same]
      ·rw [exs,List.append_assoc]
       rfl
      ·rw [List.length_append,edn]
       rfl
      ·rw [← List.drop_drop,← er']
       exact hro'
      ·rw [upd_same,List.map_append]
       rfl
      ·rw [List.length_append,elen]
       rfl
      ·rw [List.mem_append,List.mem_singleton]
       exact fun z=>z.elim hnot DrA.symm
      ·intro x hx
       rcases List.mem_append.mp hx with hx | hx
       ·exact hfr x hx
       ·rw [List.mem_singleton.mp hx]
        exact D0
      ·intro q a ns h1 h2
       by_cases hq:q < j
       ·rw [List.getElem?_append_left (by omega)] at h1 h2
        have ha:=hat q a ns h1 h2
        have am:a∈ras:=List.mem_of_getElem? h1
        have a1:a≠rd:=ne_of ha hrd' (fun z=>nomatch z)
        have a2:a≠D:=ne_of_none ha nD
        have a3:a≠rA:=fun z=>hnot (by rw [← z];exact am)
        rw [upd_ne a3,upd_ne a2,upd_ne a1]
        exact ha
       ·rw [List.getElem?_append_right (by omega)] at h1 h2
        rw [elen] at h1
        rw [edn] at h2
        have hq0:q - j=0:=by
         have:=(List.getElem?_eq_some_iff.mp h1).1
         simp at this
         exact this
        rw [hq0] at h1 h2
        cases h1
        cases h2
        rw [upd_ne DrA,upd_same,er']
     ·obtain ⟨of3,ij,ras,dn,rs,hrd3,hi1,hil3,exs,edn,hro,hrA3,elen,hnot,hfr,hat⟩:=pv_
      rw [eki] at edn hro elen
      rw [Nat.sub_self] at hro
      have hro2:rs=[]∧tl=l.drop ij:=by
       unfold PyFlat.rows at hro
       cases hro
       exact ⟨rfl,rfl⟩
      obtain ⟨rfl,rfl⟩:=hro2
      rw [List.append_nil] at exs
      subst exs
      have of03:Off rd H0 H3:=of2.trans of3
      have hgv3:H3 gv=some (.lst (gs.map V.int)):=of03 _ _ hd.gv_ (ne_of hd.gv_ hd.rd_ (fun z=>nomatch z))
      have grd:gv≠rd:=ne_of hd.gv_ hd.rd_ (fun z=>nomatch z)
      have hnA3:H3 nA=some (.lst ((r.take n).map V.int)):=of3 _ _ hnA2 nrA
      have thM0:There M H0:=(hd.lx H0 (fun _ _ q _ _=>q)).there S
      refine ⟨rd,_,hrd3,True.intro,fun o1=>?_⟩
      refine ⟨gv,.lst (gs.map V.int),by rw [upd_ne grd];exact hgv3,True.intro,fun o2=>?_⟩
      have hL:∀ b o,H3 b=some o→b≠rd→b≠gv→upd (upd H3 rd (.frz o1 (.ins t.c_Reader dxr (readerF cl ij)))) gv (.frz o2 (.lst (gs.map V.int))) b=some o:=fun b o q h1 h2=>by rw [upd_ne h2,upd_ne h1];exact q
      have hLr:upd (upd H3 rd (.frz o1 (.ins t.c_Reader dxr (readerF cl ij)))) gv (.frz o2 (.lst (gs.map V.int))) rd=some (.frz o1 (.ins t.c_Reader dxr (readerF cl ij))):=by rw [upd_ne grd.symm,upd_same]
      have hLg:upd (upd H3 rd (.frz o1 (.ins t.c_Reader dxr (readerF cl ij)))) gv (.frz o2 (.lst (gs.map V.int))) gv=some (.frz o2 (.lst (gs.map V.int))):=upd_same
      generalize upd (upd H3 rd (.frz o1 (.ins t.c_Reader dxr (readerF cl ij)))) gv (.frz o2 (.lst (gs.map V.int)))=HL at hL hLr hLg ⊢
      have LSL:LineSt t SA M HL ln st:=hd.lx HL fun b o q h1 h2=>hL b o (of03 b o q h1) h1 h2
      have notM:∀ a,H0 a=none→a∉M:=fun a e=>thM0.not e
      have AA:ArgsAt M HL nA rA (r.take n) xs ras:=by
       refine ⟨hL _ _ hnA3 nrA (fun z=>by rw [z,hd.gv_] at nA0;cases nA0),hL _ _ hrA3 rrA (fun z=>by rw [z,hd.gv_] at nrA0;cases nrA0),by rw [elen,edn],fun q a ns h1 h2=>?_⟩
       have am:a∈ras:=List.mem_of_getElem? h1
       have a0:=hfr a am
       refine ⟨hL _ _ (hat q a ns h1 h2) (fun z=>by rw [z,hd.rd_] at a0;cases a0) (fun z=>by rw [z,hd.gv_] at a0;cases a0),notM a a0,?_⟩
       have:=h30 ns (List.mem_of_getElem? h2)
       omega
      refine ⟨_,rfl,_,rfl,_,rfl,_,rfl,M,ln,nA,rA,st,p,r.take n,xs,ras,d,rfl,True.intro,LSL,AA,hS,fun H' M' D LS' kp' mM' nD DM' hD'=>?_⟩
      have hr':=kp' _ _ hLr hd.rm
      have hg':=kp' _ _ hLg hd.gm
      refine ⟨hg',by rw [upd_ne grd.symm];exact hr',?_⟩
      have Dr:D≠rd:=fun z=>by rw [z,hLr] at nD;cases nD
      have Dg:D≠gv:=fun z=>by rw [z,hLg] at nD;cases nD
      have hD5:upd (upd H' gv (.lst (gs.map V.int))) rd (.ins t.c_Reader dxr (readerF cl ij)) D=some (.lst ((Vbcjaj.step st d).2.map V.int)):=by rw [upd_ne Dr,upd_ne Dg];exact hD'
      have hg5:upd (upd H' gv (.lst (gs.map V.int))) rd (.ins t.c_Reader dxr (readerF cl ij)) gv=some (.lst (gs.map V.int)):=by rw [upd_ne grd,upd_same]
      have hr5:upd (upd H' gv (.lst (gs.map V.int))) rd (.ins t.c_Reader dxr (readerF cl ij)) rd=some (.ins t.c_Reader dxr (readerF cl ij)):=upd_same
      have h5:∀ b o,H' b=some o→b≠rd→b≠gv→upd (upd H' gv (.lst (gs.map V.int))) rd (.ins t.c_Reader dxr (readerF cl ij)) b=some o:=fun b o q h1 h2=>by rw [upd_ne h1,upd_ne h2];exact q
      generalize upd (upd H' gv (.lst (gs.map V.int))) rd (.ins t.c_Reader dxr (readerF cl ij))=H5 at hD5 hg5 hr5 h5 ⊢
      have han:=hd.an
      rw [rest_cons hcall,← List.append_assoc] at han
      have hlen:(gs++(((Vbcjaj.step st d).2.length:Int)::(Vbcjaj.step st d).2)).length≤10000000:=by
       have e:=congrArg List.length han
       rw [List.length_append] at e
       omega
      have hlen2:gs.length + ((Vbcjaj.step st d).2.length + 1)≤10000000:=by
       rw [List.length_append,List.length_cons] at hlen
       exact hlen
      refine ⟨_,rfl,Or.inl ⟨rfl,_,SqL.of hg5⟩,_,rfl,D,_,rfl,.inl (SqL.of hD5),gv,_,_,rfl,rfl,hg5,by rw [List.length_map];exact Nat.lt_of_lt_of_le (Nat.lt_succ_self _) (hbig (by omega)),?_⟩
      refine ⟨_,rfl,Or.inl ⟨rfl,_,SqL.of upd_same⟩,_,rfl,gv,D,_,_,rfl,rfl,upd_same,by rw [upd_ne Dg];exact hD5,?_,?_⟩
      ·rw [List.length_append,List.length_map,List.length_map]
       exact hbig (by show gs.length + 1 + (Vbcjaj.step st d).2.length≤10000000;omega)
      rw [upd_upd]
      refine ⟨l.length - ij,by omega,ij,f',cs',(Vbcjaj.step st d).1,M',gs++(((Vbcjaj.step st d).2.length:Int)::(Vbcjaj.step st d).2),dxr,_,_,_,_,_,rfl,rfl,?_⟩
      refine ⟨hpc',hil3,han,fun H'' e=>LS'.sameU S fun b o q nf=>?_,by rw [upd_ne grd.symm];exact hr5,?_,?_,?_,?_,fun c hc=>hd.ok c (List.mem_cons_of_mem _ hc)⟩
      ·have b1:b≠rd:=fun z=>by rw [z,hr'] at q;cases q;exact nf _ _ rfl
       have b2:b≠gv:=fun z=>by rw [z,hg'] at q;cases q;exact nf _ _ rfl
       refine e b o ?_ b1 b2
       rw [upd_ne b2]
       exact h5 b o q b1 b2
      ·intro z
       rcases mM' rd z with z | z
       ·exact hd.rm z
       ·rw [hLr] at z;cases z
      ·rw [upd_same,List.map_append,List.map_cons,List.length_map,List.append_assoc]
       rfl
      ·intro z
       rcases mM' gv z with z | z
       ·exact hd.gm z
       ·rw [hLg] at z;cases z
      ·rcases hd.cl_ with h | ⟨⟨o,h⟩,nc⟩
       ·exact .inl h
       ·have c1:cl≠rd:=fun z=>by rw [z,hd.rd_] at h;cases h
        have c2:cl≠gv:=fun z=>by rw [z,hd.gv_] at h;cases h
        have hcL:=hL _ _ (of03 _ _ h c1) c1 c2
        refine .inr ⟨⟨o,?_⟩,fun z=>?_⟩
        ·rw [upd_ne c2]
         exact h5 _ _ (kp' _ _ hcL nc) c1 c2
        ·rcases mM' cl z with z | z
         ·exact nc z
         ·rw [hcL] at z;cases z
end
def cueF (x:Vbcjaj.Cue):List (Str × V):=[("serial",.int x.serial),("number",.int x.no),("value",.int x.value),("age",.int x.age)]
def doneF (e:Vbcjaj.Entry):List (Str × V):=[("number",.int e.item),("taken",.int (Vbcjaj.orMinus e.value)),("rescued",.bl e.rescued)]
def dI:Option Vbcjaj.Doing→Int
 | none=>-1
 | some d=>(d.item:Int)
def sI:Option Vbcjaj.Doing→Int
 | none=>0
 | some d=>(d.sent:Int)
def kI:Option Vbcjaj.Doing→Int
 | none=>0
 | some d=>(d.ticks:Int)
def vI:Option Vbcjaj.Doing→Int
 | none=>-1
 | some d=>Vbcjaj.orMinus d.value
def showF (ba aa:Addr) (se:Int) (da:Addr) (mi:Int) (wa:Addr) (dg sn tk tv:Int):List (Str × V):=[("beliefs",.ref ba),("actual",.ref aa),("serial",.int se),("done",.ref da),("minutes",.int mi),("wire",.ref wa),("doing",.int dg),("sent",.int sn),("ticks",.int tk),("taken",.int tv)]
def showG (ba aa da wa:Addr) (g:Vbcjaj.Stage):List (Str × V):=showF ba aa g.serial da g.minutes wa (dI g.doing) (sI g.doing) (kI g.doing) (vI g.doing)
structure WfG (h:Vbcjaj.House) (g:Vbcjaj.Stage):Prop where
 al:g.actual.length=h.props.length
 a6:∀ c∈g.actual,c < 6
 bl:g.beliefs.length=h.props.length
 bf:Few g.beliefs
 wl:g.wire.length≤20
 ll:g.log.length≤g.minutes
 lm:g.minutes≤h.limit
 dg:∀ d,g.doing=some d→∃ it,Vbcjaj.itemAt h d.item=some it∧g.minutes + it.minutes≤h.limit∧d.rescued=(decide (0 < it.wait) && (d.value.isNone && decide (it.wait≤d.ticks)))
structure ShA (t:Ad) (M:List Addr) (H:Hp) (sa:Addr) (h:Vbcjaj.House) (g:Vbcjaj.Stage) (dx ba aa da wa:Addr) (ds cs:List Addr):Prop where
 ob:H sa=some (.ins t.c_Show dx (showG ba aa da wa g))
 be:H ba=some (.lst (nv g.beliefs))
 ac:H aa=some (.lst (nv g.actual))
 ma:aa∉M
 dn:H da=some (.lst (ds.map V.ref))
 dl:ds.length=g.log.length
 de:∀ (i:Nat) (d:Addr) (e:Vbcjaj.Entry),ds[i]?=some d→g.log[i]?=some e→d∉M∧∃ dd,H d=some (.ins t.c_Done dd (doneF e))
 wr:H wa=some (.lst (cs.map V.ref))
 wn:cs.length=g.wire.length
 wc:∀ (i:Nat) (c:Addr) (x:Vbcjaj.Cue),cs[i]?=some c→g.wire[i]?=some x→∃ dc,H c=some (.ins t.c_Cue dc (cueF x))
 wf:WfG h g
def SAc (t:Ad):SRel:=fun M H sa h g SM=>∃ dx ba aa da wa ds cs,SM=sa::ba::da::wa::cs∧ShA t M H sa h g dx ba aa da wa ds cs
theorem SAc_stable (t:Ad):Stable (SAc t):=by
 refine ⟨fun {M H H' a h g SM} x e=>?_,fun {M H a h g SM} x=>?_⟩
 ·obtain ⟨dx,ba,aa,da,wa,ds,cs,rfl,X⟩:=x
  exact ⟨dx,ba,aa,da,wa,ds,cs,rfl,e _ _ X.ob (fun _ _ z=>nomatch z),e _ _ X.be (fun _ _ z=>nomatch z),e _ _ X.ac (fun _ _ z=>nomatch z),X.ma,e _ _ X.dn (fun _ _ z=>nomatch z),X.dl,
   fun i d en h1 h2=>⟨(X.de i d en h1 h2).1,let ⟨dd,q⟩:=(X.de i d en h1 h2).2;⟨dd,e _ _ q (fun _ _ z=>nomatch z)⟩⟩,e _ _ X.wr (fun _ _ z=>nomatch z),X.wn,fun i c y h1 h2=>let ⟨dc,q⟩:=X.wc i c y h1 h2;⟨dc,e _ _ q (fun _ _ z=>nomatch z)⟩,X.wf⟩
 ·obtain ⟨dx,ba,aa,da,wa,ds,cs,rfl,X⟩:=x
  intro m hm
  rcases List.mem_cons.mp hm with rfl | hm
  ·exact ⟨_,X.ob⟩
  rcases List.mem_cons.mp hm with rfl | hm
  ·exact ⟨_,X.be⟩
  rcases List.mem_cons.mp hm with rfl | hm
  ·exact ⟨_,X.dn⟩
  rcases List.mem_cons.mp hm with rfl | hm
  ·exact ⟨_,X.wr⟩
  obtain ⟨i,hi⟩:=List.mem_iff_getElem?.mp hm
  have hlt:i < g.wire.length:=by rw [← X.wn];exact (List.getElem?_eq_some_iff.mp hi).1
  obtain ⟨dc,q⟩:=X.wc i m _ hi (List.getElem?_eq_getElem hlt)
  exact ⟨_,q⟩
section
variable {P:Program} {w:World} {K:PySem.W.Frag} {mg:Str→Option Value} {base:Heap} {t:Ad} {SA:SRel}
theorem IsItem.step {M M':List Addr} {H H':Hp} {a:Addr} {it:Vbcjaj.Item} (h:IsItem t M H a it) (kp:∀ b o,H b=some o→b∉M→H' b=some o) (fr:∀ m∈M',m∈M∨H m=none):IsItem t M' H' a it:=by
 obtain ⟨n,l,r,⟨dx,h0⟩,h1,h2,h3,m0,m1,m2,m3⟩:=h
 have nm:∀ {b:Addr} {o:HO},H b=some o→b∉M→b∉M':=fun {b o} e hb z=>by
  rcases fr b z with q | q
  ·exact hb q
  ·rw [e] at q;cases q
 exact ⟨n,l,r,⟨dx,kp _ _ h0 m0⟩,kp _ _ h1 m1,kp _ _ h2 m2,kp _ _ h3 m3,nm h0 m0,nm h1 m1,nm h2 m2,nm h3 m3⟩
theorem HouseAt.step {M M':List Addr} {H H':Hp} {a:Addr} {h:Vbcjaj.House} {pa ta ra ba:Addr} {ts rs:List Addr} (x:HouseAt t M H a h pa ta ra ba ts rs) (kp:∀ b o,H b=some o→b∉M→H' b=some o) (fr:∀ m∈M',m∈M∨H m=none)
  (ea:∀ o,H a=some o→H' a=some o) (et:∀ o,H ta=some o→H' ta=some o) (er:∀ o,H ra=some o→H' ra=some o):HouseAt t M' H' a h pa ta ra ba ts rs:=by
 obtain ⟨⟨dx,h0⟩,h1,h2,h3,h4,h5,h6,m1,m2⟩:=x
 have nm:∀ {b:Addr} {o:HO},H b=some o→b∉M→b∉M':=fun {b o} e hb z=>by
  rcases fr b z with q | q
  ·exact hb q
  ·rw [e] at q;cases q
 exact ⟨⟨dx,ea _ h0⟩,kp _ _ h1 m1,et _ h2,er _ h3,kp _ _ h4 m2,⟨h5.len,fun i x it g1 g2=>(h5.at_ i x it g1 g2).step kp fr⟩,⟨h6.len,fun i x it g1 g2=>(h6.at_ i x it g1 g2).step kp fr⟩,nm h1 m1,nm h4 m2⟩
theorem LineAt.shift {H H':Hp} {ln:Addr} {s:Vbcjaj.State} {dx hs:Addr} {v:V} {pa ta ra ba:Addr} {ts rs SM SM':List Addr} {sa:Addr} {g':Vbcjaj.Stage} (L:LineAt t SA H ln s dx hs v pa ta ra ba ts rs SM)
  (kp:∀ b o,H b=some o→b∉SM→b≠ln→H' b=some o) (ol:H' ln=some (.ins t.c_Line dx (lineF hs (.ref sa)))) (th:∀ m∈SM',m∈SM∨H m=none) (nd:SM'.Nodup) (sh:SA (ln::hs::ta::ra::SM') H' sa s.house g' SM') :
  LineSt t SA (ln::hs::ta::ra::SM') H' ln ⟨s.house,some g'⟩:=by
 have nd0:=L.nd
 have h0:=L.house
 have m4:∀ {b:Addr},b∉ln::hs::ta::ra::SM→b∉SM∧b≠ln:=fun {b} hb=>⟨fun z=>hb (by simp [z]),fun z=>hb (by simp [z])⟩
 have nin:∀ {b:Addr},b=ln∨b=hs∨b=ta∨b=ra→b∉SM:=fun {b} hb z=>by
  simp only [List.nodup_cons,List.mem_cons,not_or] at nd0
  obtain ⟨⟨_,_,_,q1⟩,⟨_,_,q2⟩,⟨_,q3⟩,q4,_⟩:=nd0
  rcases hb with rfl | rfl | rfl | rfl
  ·exact q1 z
  ·exact q2 z
  ·exact q3 z
  ·exact q4 z
 have nl:∀ {b:Addr},b=hs∨b=ta∨b=ra→b≠ln:=fun {b} hb z=>by
  simp only [List.nodup_cons,List.mem_cons,not_or] at nd0
  obtain ⟨⟨q1,q2,q3,_⟩,_⟩:=nd0
  rcases hb with rfl | rfl | rfl
  ·exact q1 z.symm
  ·exact q2 z.symm
  ·exact q3 z.symm
 have fr:∀ m∈ln::hs::ta::ra::SM',m∈ln::hs::ta::ra::SM∨H m=none:=fun m hm=>by
  rcases List.mem_cons.mp hm with rfl | hm
  ·exact .inl (by simp)
  rcases List.mem_cons.mp hm with rfl | hm
  ·exact .inl (by simp)
  rcases List.mem_cons.mp hm with rfl | hm
  ·exact .inl (by simp)
  rcases List.mem_cons.mp hm with rfl | hm
  ·exact .inl (by simp)
  rcases th m hm with q | q
  ·exact .inl (by simp [q])
  ·exact .inr q
 have ex:∀ {b:Addr},b=ln∨b=hs∨b=ta∨b=ra→b∉SM':=fun {b} hb z=>by
  rcases th b z with q | q
  ·exact nin hb q
  ·obtain ⟨⟨dh,o0⟩,_,o2,o3,_⟩:=h0
   rcases hb with rfl | rfl | rfl | rfl
   ·rw [L.ob] at q;cases q
   ·rw [o0] at q;cases q
   ·rw [o2] at q;cases q
   ·rw [o3] at q;cases q
 refine ⟨dx,hs,.ref sa,pa,ta,ra,ba,ts,rs,SM',rfl,ol,?_,L.wf,?_,sa,rfl,sh⟩
 ·exact h0.step (fun b o e hb=>kp b o e (m4 hb).1 (m4 hb).2) fr (fun o e=>kp _ _ e (nin (by simp)) (nl (by simp))) (fun o e=>kp _ _ e (nin (by simp)) (nl (by simp))) (fun o e=>kp _ _ e (nin (by simp)) (nl (by simp)))
 ·simp only [List.nodup_cons,List.mem_cons,not_or] at nd0 ⊢
  obtain ⟨⟨q1,q2,q3,_⟩,⟨q4,q5,_⟩,⟨q6,_⟩,_⟩:=nd0
  exact ⟨⟨q1,q2,q3,ex (by simp)⟩,⟨q4,q5,ex (by simp)⟩,⟨q6,ex (by simp)⟩,ex (by simp),nd⟩
theorem newSt.fin {M M2:List Addr} {H H2:Hp} {ln:Addr} {s':Vbcjaj.State} {ans:List Int} {Q:VK} (S:Stable SA) (k:newSt t SA M H ln (s',ans) Q) (LS:LineSt t SA M2 H2 ln s') (kp:Kp M H H2) (al:There M H2) (fr:∀ m∈M2,m∈M∨H m=none)
  (vs:List V) (e:vs=ans.map V.int):∀ D,H2 D=none→Q (.ref D) (upd H2 D (.lst vs)):=fun D nD=>by
 have nH:H D=none:=by
  cases q:H D with
  | none=>rfl
  | some o =>
   by_cases z:D∈M
   ·obtain ⟨o',q'⟩:=al D z
    rw [nD] at q';cases q'
   ·rw [kp D o q z] at nD;cases nD
 refine k _ M2 D (LS.same S (Same.new nD)) (kp.trans (Kp.same (Same.new nD))) fr nH ((LS.there S).not nD) (by rw [upd_same,e])
def spCueInit (t:Ad):Sp:=fun vs H Q _=>∃ (p dx:Addr) (x:Vbcjaj.Cue),vs=[.ref p,.int x.serial,.int x.no,.int x.value,.int x.age]∧H p=some (.ins t.c_Cue dx [])∧Q .non (upd H p (.ins t.c_Cue dx (cueF x)))
theorem scCueInit:FnScope ["self","serial","number","value","age"] ["self","serial","number","value","age"] (defScope s_Cue_init):=⟨rfl,rfl,rfl,by decide +kernel,rfl,by decide +kernel,by decide +kernel⟩
theorem ok_cueInit (T:Tx K mg t):FnOk P w K mg base CX0 1 t.f_Cue_init t.d_Cue_init ["self","serial","number","value","age"] (spCueInit t):=by
 refine T.x_Cue_init.ok scCueInit (fun vs H Q E h=>?_) (fun cdv A outer s H vs Q E hr h=>?_)
 ·obtain ⟨p,dx,x,rfl,_⟩:=h
  rfl
 ·obtain ⟨p,dx,x,rfl,hp,k⟩:=h
  refine ⟨_,pss_cons (ps_fld (pv 0) (pv 1) rfl) (pss_cons (ps_fld (pv 0) (pv 2) rfl) (pss_cons (ps_fld (pv 0) (pv 3) rfl) (pss_one (ps_fld (pv 0) (pv 4) rfl)))),?_⟩
  refine ⟨_,rfl,_,rfl,p,_,dx,_,rfl,hp,T.cl_Cue,T.no_Cue_serial,by show 0 < 1000;decide,?_⟩
  refine ⟨_,rfl,_,rfl,p,_,dx,_,rfl,upd_same,T.cl_Cue,T.no_Cue_number,by show 1 < 1000;decide,?_⟩
  refine ⟨_,rfl,_,rfl,p,_,dx,_,rfl,upd_same,T.cl_Cue,T.no_Cue_value,by show 2 < 1000;decide,?_⟩
  refine ⟨_,rfl,_,rfl,p,_,dx,_,rfl,upd_same,T.cl_Cue,T.no_Cue_age,by show 3 < 1000;decide,?_⟩
  show Q .non _
  rw [upd_upd,upd_upd,upd_upd]
  exact k
def spDoneInit (t:Ad):Sp:=fun vs H Q _=>∃ (p dx:Addr) (e:Vbcjaj.Entry),vs=[.ref p,.int e.item,.int (Vbcjaj.orMinus e.value),.bl e.rescued]∧H p=some (.ins t.c_Done dx [])∧Q .non (upd H p (.ins t.c_Done dx (doneF e)))
theorem scDoneInit:FnScope ["self","number","taken","rescued"] ["self","number","taken","rescued"] (defScope s_Done_init):=⟨rfl,rfl,rfl,by decide +kernel,rfl,by decide +kernel,by decide +kernel⟩
theorem ok_doneInit (T:Tx K mg t):FnOk P w K mg base CX0 1 t.f_Done_init t.d_Done_init ["self","number","taken","rescued"] (spDoneInit t):=by
 refine T.x_Done_init.ok scDoneInit (fun vs H Q E h=>?_) (fun cdv A outer s H vs Q E hr h=>?_)
 ·obtain ⟨p,dx,x,rfl,_⟩:=h
  rfl
 ·obtain ⟨p,dx,x,rfl,hp,k⟩:=h
  refine ⟨_,pss_cons (ps_fld (pv 0) (pv 1) rfl) (pss_cons (ps_fld (pv 0) (pv 2) rfl) (pss_one (ps_fld (pv 0) (pv 3) rfl))),?_⟩
  refine ⟨_,rfl,_,rfl,p,_,dx,_,rfl,hp,T.cl_Done,T.no_Done_number,by show 0 < 1000;decide,?_⟩
  refine ⟨_,rfl,_,rfl,p,_,dx,_,rfl,upd_same,T.cl_Done,T.no_Done_taken,by show 1 < 1000;decide,?_⟩
  refine ⟨_,rfl,_,rfl,p,_,dx,_,rfl,upd_same,T.cl_Done,T.no_Done_rescued,by show 2 < 1000;decide,?_⟩
  show Q .non _
  rw [upd_upd,upd_upd]
  exact k
def turnF (n:Int) (fs:List (Str × V)):List (Str × V):=putF "taken" (.int (-1)) (putF "ticks" (.int 0) (putF "sent" (.int 0) (putF "doing" (.int n) fs)))
def spTurn (t:Ad):Sp:=fun vs H Q _=>∃ (p dx:Addr) (fs:List (Str × V)) (n:Int),vs=[.ref p,.int n]∧H p=some (.ins t.c_Show dx fs)∧fs.length < 1000∧(putF "doing" (.int n) fs).length < 1000∧(putF "sent" (.int 0) (putF "doing" (.int n) fs)).length < 1000∧(putF "ticks" (.int 0) (putF "sent" (.int 0) (putF "doing" (.int n) fs))).length < 1000∧Q .non (upd H p (.ins t.c_Show dx (turnF n fs)))
theorem scTurn:FnScope ["self","number"] ["self","number"] (defScope s_Show_turn_to):=⟨rfl,rfl,rfl,by decide +kernel,rfl,by decide +kernel,by decide +kernel⟩
theorem ok_turn (T:Tx K mg t):FnOk P w K mg base CX0 1 t.f_Show_turn_to t.d_Show_turn_to ["self","number"] (spTurn t):=by
 refine T.x_Show_turn_to.ok scTurn (fun vs H Q E h=>?_) (fun cdv A outer s H vs Q E hr h=>?_)
 ·obtain ⟨p,dx,fs,n,rfl,_⟩:=h
  rfl
 ·obtain ⟨p,dx,fs,n,rfl,hp,l0,l1,l2,l3,k⟩:=h
  refine ⟨_,pss_cons (ps_fld (pv 0) (pv 1) rfl) (pss_cons (ps_fld (pv 0) pe_int rfl) (pss_cons (ps_fld (pv 0) pe_int rfl) (pss_one (ps_fld (pv 0) (pe_const rfl T.k_NO_VALUE) rfl)))),?_⟩
  refine ⟨_,rfl,_,rfl,p,_,dx,_,rfl,hp,T.cl_Show,T.no_Show_doing,l0,?_⟩
  refine ⟨_,rfl,p,_,dx,_,rfl,upd_same,T.cl_Show,T.no_Show_sent,l1,?_⟩
  refine ⟨_,rfl,p,_,dx,_,rfl,upd_same,T.cl_Show,T.no_Show_ticks,l2,?_⟩
  refine ⟨_,rfl,p,_,dx,_,rfl,upd_same,T.cl_Show,T.no_Show_taken,l3,?_⟩
  show Q .non _
  rw [upd_upd,upd_upd,upd_upd]
  exact k
structure NewShow (t:Ad) (H H':Hp) (p dx ba aa da wa:Addr):Prop where
 ob:H' p=some (.ins t.c_Show dx (showF ba aa 0 da 0 wa (-1) 0 0 (-1)))
 hd:H' da=some (.lst [])
 hw:H' wa=some (.lst [])
 nd:H da=none
 nw:H wa=none
 dw:da≠wa
 kp:∀ b o,H b=some o→b≠p→H' b=some o
def spShowInit (t:Ad):Sp:=fun vs H Q _=>∃ (p dx ba aa:Addr),vs=[.ref p,.ref ba,.ref aa]∧H p=some (.ins t.c_Show dx [])∧∀ H' da wa,NewShow t H H' p dx ba aa da wa→Q .non H'
theorem scShowInit:FnScope ["self","beliefs","actual"] ["self","beliefs","actual"] (defScope s_Show_init):=⟨rfl,rfl,rfl,by decide +kernel,rfl,by decide +kernel,by decide +kernel⟩
theorem ok_showInit (T:Tx K mg t):FnOk P w K mg base CX0 2 t.f_Show_init t.d_Show_init ["self","beliefs","actual"] (spShowInit t):=by
 refine T.x_Show_init.ok scShowInit (fun vs H Q E h=>?_) (fun cdv A outer s H vs Q E hr h=>?_)
 ·obtain ⟨p,dx,ba,aa,rfl,_⟩:=h
  rfl
 ·obtain ⟨p,dx,ba,aa,rfl,hp,k⟩:=h
  refine ⟨_,pss_cons (ps_fld (pv 0) (pv 1) rfl) (pss_cons (ps_fld (pv 0) (pv 2) rfl) (pss_cons (ps_fld (pv 0) pe_int rfl) (pss_cons (ps_fld (pv 0) (pe_lst pa_nil) rfl) (pss_cons (ps_fld (pv 0) pe_int rfl) (pss_cons (ps_fld (pv 0) (pe_lst pa_nil) rfl)
   (pss_one (ps_expr (pe_meth (pv 0) T.cl_Show T.m_Show_turn_to (ok_turn T) hr T.b_Show_turn_to .nil pass0 (pa_cons (pe_const rfl T.k_NO_ITEM) pa_nil))))))))),?_⟩
  refine ⟨_,rfl,_,rfl,p,_,dx,_,rfl,hp,T.cl_Show,T.no_Show_beliefs,by show 0 < 1000;decide,?_⟩
  refine ⟨_,rfl,_,rfl,p,_,dx,_,rfl,upd_same,T.cl_Show,T.no_Show_actual,by show 1 < 1000;decide,?_⟩
  refine ⟨_,rfl,p,_,dx,_,rfl,upd_same,T.cl_Show,T.no_Show_serial,by show 2 < 1000;decide,?_⟩
  rw [upd_upd,upd_upd]
  refine ⟨Nat.zero_le _,fun da nd=>?_⟩
  have dp:da≠p:=fun z=>by rw [z,upd_same] at nd;cases nd
  have nd0:H da=none:=by rw [upd_ne dp] at nd;exact nd
  refine ⟨_,rfl,p,_,dx,_,rfl,by rw [upd_ne dp.symm,upd_same],T.cl_Show,T.no_Show_done,by show 3 < 1000;decide,?_⟩
  refine ⟨_,rfl,p,_,dx,_,rfl,upd_same,T.cl_Show,T.no_Show_minutes,by show 4 < 1000;decide,?_⟩
  rw [upd_upd]
  refine ⟨Nat.zero_le _,fun wa nw=>?_⟩
  have wp:wa≠p:=fun z=>by rw [z,upd_same] at nw;cases nw
  rw [upd_ne wp] at nw
  have wd:wa≠da:=fun z=>by rw [z,upd_same] at nw;cases nw
  rw [upd_ne wd,upd_ne wp] at nw
  refine ⟨_,rfl,p,_,dx,_,rfl,by rw [upd_ne wp.symm,upd_same],T.cl_Show,T.no_Show_wire,by show 5 < 1000;decide,?_⟩
  refine ⟨_,rfl,p,dx,_,rfl,upd_same,rfl,p,dx,_,-1,rfl,upd_same,by show 6 < 1000;decide,by show 7 < 1000;decide,by show 8 < 1000;decide,by show 9 < 1000;decide,?_⟩
  refine k _ da wa ⟨by rw [upd_same];rfl,by rw [upd_ne dp,upd_ne dp,upd_ne wd.symm,upd_ne dp,upd_same],by rw [upd_ne wp,upd_ne wp,upd_same],nd0,nw,wd.symm,fun b o e hb=>?_⟩
  rw [upd_ne hb,upd_ne hb,upd_ne (ne_of_none e nw),upd_ne hb,upd_ne (ne_of_none e nd0),upd_ne hb]
  exact e
end
section
variable {P:Program} {w:World} {K:PySem.W.Frag} {mg:Str→Option Value} {base:Heap} {t:Ad} {SA:SRel}
structure ShowOn (t:Ad) (M:List Addr) (H:Hp) (hs sa:Addr) (h:Vbcjaj.House) (g:Vbcjaj.Stage):Prop where
 house:IsHouse t M H hs h
 ob:∃ dx ba aa da wa,H sa=some (.ins t.c_Show dx (showG ba aa da wa g))
 wf:WfG h g
def wantsB (h:Vbcjaj.House) (g:Vbcjaj.Stage):Bool:=match g.doing with
 | none=>false
 | some d=>match Vbcjaj.itemAt h d.item with
  | none=>false
  | some it=>decide (0 < it.wait)
def rescB (g:Vbcjaj.Stage):Bool:=match g.doing with
 | none=>false
 | some d=>d.rescued
def waitsB (h:Vbcjaj.House) (g:Vbcjaj.Stage):Bool:=match g.doing with
 | none=>false
 | some d=>match Vbcjaj.itemAt h d.item with
  | none=>false
  | some it=>decide (0 < it.wait) && (d.value.isNone && !d.rescued)
theorem nat_ne (n:Nat):decide (V.int ((n:Nat):Int)=V.int (-1))=false:=decide_eq_false fun z=>by injection z with z;omega
theorem val_eq (o:Option Nat):decide (V.int (Vbcjaj.orMinus o)=V.int (-1))=o.isNone:=by
 cases o with
 | none=>rfl
 | some n=>exact nat_ne n
theorem OptItem.some_ {M:List Addr} {H:Hp} {v:V} {it:Vbcjaj.Item} (h:OptItem t M H v (some it)):∃ x,v=.ref x∧IsItem t M H x it:=by
 rcases h with ⟨z,_⟩ | ⟨x,it',e,rfl,q⟩
 ·cases z
 ·cases e
  exact ⟨x,rfl,q⟩
def spWants (t:Ad):Sp:=fun vs H Q _=>∃ (M:List Addr) (hs sa:Addr) (h:Vbcjaj.House) (g:Vbcjaj.Stage),vs=[.ref hs,.ref sa]∧ShowOn t M H hs sa h g∧Q (.bl (wantsB h g)) H
theorem scWants:FnScope ["house","show"] ["house","show"] (defScope s_wants_cue):=⟨rfl,rfl,rfl,by decide +kernel,rfl,by decide +kernel,by decide +kernel⟩
theorem ok_wants (T:Tx K mg t):FnOk P w K mg base CX0 3 t.f_wants_cue t.d_wants_cue ["house","show"] (spWants t):=by
 refine T.x_wants_cue.F.ok scWants (fun vs H Q E h=>?_) (fun cdv A outer s H vs Q E hr h=>?_)
 ·obtain ⟨M,hs,sa,h,g,rfl,_⟩:=h
  rfl
 ·obtain ⟨M,hs,sa,h,g,rfl,⟨ih,⟨dx,ba,aa,da,wa,ob⟩,W⟩,k⟩:=h
  refine ⟨_,pss_one (ps_ret (pe_and (pe_cmpR op_ne (pe_fld (pv 1) rfl) (pe_const rfl T.k_NO_ITEM) (nomark _)) (pe_one (pe_cmpR op_gt (pe_fld (pe_call (ok_itemAt T) hr rfl T.x_item_at.m T.x_item_at.F.kp T.x_item_at.b .nil pass0 (pa_cons (pv 0) (pa_cons (pe_fld (pv 1) rfl) pa_nil))) rfl) pe_int (nomark _))))),?_⟩
  obtain ⟨ac,be,se,dg,wi,lo,mi⟩:=g
  cases dg with
  | none=>exact ⟨_,rfl,sa,_,dx,_,_,rfl,ob,T.cl_Show,T.no_Show_doing,rfl,rfl,_,rfl,iteF k⟩
  | some d =>
   obtain ⟨it,hi,_⟩:=W.dg d rfl
   refine ⟨_,rfl,sa,_,dx,_,_,rfl,ob,T.cl_Show,T.no_Show_doing,rfl,rfl,_,rfl,?_⟩
   show if (!decide (V.int ((d.item:Nat):Int)=V.int (-1)))=true then _ else _
   rw [nat_ne]
   refine iteT ?_
   refine ⟨_,rfl,_,rfl,sa,_,dx,_,_,rfl,ob,T.cl_Show,T.no_Show_doing,rfl,M,hs,d.item,h,rfl,ih,fun v hv=>?_⟩
   rw [hi] at hv
   obtain ⟨x,rfl,n,l,r,⟨dz,io⟩,_⟩:=hv.some_
   refine ⟨x,_,dz,_,_,rfl,io,T.cl_Item,T.no_Item_wait,rfl,_,_,rfl,rfl,?_⟩
   have e:wantsB h ⟨ac,be,se,some d,wi,lo,mi⟩=decide (0 < it.wait):=by unfold wantsB;dsimp only;rw [hi]
   rw [e] at k
   have e2:=dec_lt 0 it.wait
   rw [← e2] at k
   exact k
def spResc (t:Ad):Sp:=fun vs H Q _=>∃ (M:List Addr) (hs sa:Addr) (h:Vbcjaj.House) (g:Vbcjaj.Stage),vs=[.ref hs,.ref sa]∧ShowOn t M H hs sa h g∧Q (.bl (rescB g)) H
theorem scResc:FnScope ["house","show"] ["house","show"] (defScope s_is_rescued):=⟨rfl,rfl,rfl,by decide +kernel,rfl,by decide +kernel,by decide +kernel⟩
theorem ok_resc (T:Tx K mg t):FnOk P w K mg base CX0 4 t.f_is_rescued t.d_is_rescued ["house","show"] (spResc t):=by
 refine T.x_is_rescued.F.ok scResc (fun vs H Q E h=>?_) (fun cdv A outer s H vs Q E hr h=>?_)
 ·obtain ⟨M,hs,sa,h,g,rfl,_⟩:=h
  rfl
 ·obtain ⟨M,hs,sa,h,g,rfl,S0,k⟩:=h
  refine ⟨_,pss_one (ps_ret (pe_and (pe_call (ok_wants T) hr rfl T.x_wants_cue.m T.x_wants_cue.F.kp T.x_wants_cue.b .nil pass0 (pa_cons (pv 0) (pa_cons (pv 1) pa_nil)))
   (pe_and (pe_cmpR op_eq (pe_fld (pv 1) rfl) (pe_const rfl T.k_NO_VALUE) (nomark _)) (pe_one (pe_cmpR op_ge (pe_fld (pv 1) rfl) (pe_fld (pe_call (ok_itemAt T) (hr.mono (by decide)) rfl T.x_item_at.m T.x_item_at.F.kp T.x_item_at.b .nil pass0 (pa_cons (pv 0) (pa_cons (pe_fld (pv 1) rfl) pa_nil))) rfl) (nomark _)))))),?_⟩
  refine ⟨_,rfl,_,rfl,M,hs,sa,h,g,rfl,S0,_,rfl,?_⟩
  obtain ⟨ih,⟨dx,ba,aa,da,wa,ob⟩,W⟩:=S0
  obtain ⟨ac,be,se,dg,wi,lo,mi⟩:=g
  cases dg with
  | none=>exact iteF k
  | some d =>
   obtain ⟨it,hi,_,hre⟩:=W.dg d rfl
   have e:wantsB h ⟨ac,be,se,some d,wi,lo,mi⟩=decide (0 < it.wait):=by unfold wantsB;dsimp only;rw [hi]
   have k':Q (.bl d.rescued) H:=k
   rw [hre] at k'
   rw [e]
   refine ifB (fun z=>?_) (fun z=>?_)
   ·rw [z,Bool.true_and] at k'
    refine ⟨_,rfl,sa,_,dx,_,_,rfl,ob,T.cl_Show,T.no_Show_taken,rfl,rfl,_,rfl,?_⟩
    show if decide (V.int (Vbcjaj.orMinus d.value)=V.int (-1))=true then _ else _
    rw [val_eq]
    refine ifB (fun y=>?_) (fun y=>?_)
    ·rw [y,Bool.true_and] at k'
     refine ⟨_,rfl,sa,_,dx,_,_,rfl,ob,T.cl_Show,T.no_Show_ticks,rfl,_,rfl,_,rfl,sa,_,dx,_,_,rfl,ob,T.cl_Show,T.no_Show_doing,rfl,M,hs,d.item,h,rfl,ih,fun v hv=>?_⟩
     rw [hi] at hv
     obtain ⟨x,rfl,n,l,r,⟨dz,io⟩,_⟩:=hv.some_
     refine ⟨x,_,dz,_,_,rfl,io,T.cl_Item,T.no_Item_wait,rfl,_,_,rfl,rfl,?_⟩
     have e2:decide ((it.wait:Int)≤(d.ticks:Int))=decide (it.wait≤d.ticks):=by
      by_cases q:it.wait≤d.ticks
      ·rw [decide_eq_true q,decide_eq_true (by omega)]
      ·rw [decide_eq_false q,decide_eq_false (by omega)]
     rw [← e2] at k'
     exact k'
    ·rw [y,Bool.false_and] at k'
     exact k'
   ·rw [z,Bool.false_and] at k'
    exact k'
def spWaits (t:Ad):Sp:=fun vs H Q _=>∃ (M:List Addr) (hs sa:Addr) (h:Vbcjaj.House) (g:Vbcjaj.Stage),vs=[.ref hs,.ref sa]∧ShowOn t M H hs sa h g∧Q (.bl (waitsB h g)) H
theorem scWaits:FnScope ["house","show"] ["house","show"] (defScope s_waits_for_cue):=⟨rfl,rfl,rfl,by decide +kernel,rfl,by decide +kernel,by decide +kernel⟩
theorem ok_waits (T:Tx K mg t):FnOk P w K mg base CX0 5 t.f_waits_for_cue t.d_waits_for_cue ["house","show"] (spWaits t):=by
 refine T.x_waits_for_cue.F.ok scWaits (fun vs H Q E h=>?_) (fun cdv A outer s H vs Q E hr h=>?_)
 ·obtain ⟨M,hs,sa,h,g,rfl,_⟩:=h
  rfl
 ·obtain ⟨M,hs,sa,h,g,rfl,S0,k⟩:=h
  refine ⟨_,pss_one (ps_ret (pe_and (pe_call (ok_wants T) (hr.mono (by decide)) rfl T.x_wants_cue.m T.x_wants_cue.F.kp T.x_wants_cue.b .nil pass0 (pa_cons (pv 0) (pa_cons (pv 1) pa_nil)))
   (pe_and (pe_cmpR op_eq (pe_fld (pv 1) rfl) (pe_const rfl T.k_NO_VALUE) (nomark _)) (pe_one (pe_not (pe_call (ok_resc T) hr rfl T.x_is_rescued.m T.x_is_rescued.F.kp T.x_is_rescued.b .nil pass0 (pa_cons (pv 0) (pa_cons (pv 1) pa_nil)))))))),?_⟩
  refine ⟨_,rfl,_,rfl,M,hs,sa,h,g,rfl,S0,_,rfl,?_⟩
  have S1:=S0
  obtain ⟨ih,⟨dx,ba,aa,da,wa,ob⟩,W⟩:=S0
  obtain ⟨ac,be,se,dg,wi,lo,mi⟩:=g
  cases dg with
  | none=>exact iteF k
  | some d =>
   obtain ⟨it,hi,_,hre⟩:=W.dg d rfl
   have e:wantsB h ⟨ac,be,se,some d,wi,lo,mi⟩=decide (0 < it.wait):=by unfold wantsB;dsimp only;rw [hi]
   have e3:waitsB h ⟨ac,be,se,some d,wi,lo,mi⟩=(decide (0 < it.wait) && (d.value.isNone && !d.rescued)):=by unfold waitsB;dsimp only;rw [hi]
   rw [e3] at k
   rw [e]
   refine ifB (fun z=>?_) (fun z=>?_)
   ·rw [z,Bool.true_and] at k
    refine ⟨_,rfl,sa,_,dx,_,_,rfl,ob,T.cl_Show,T.no_Show_taken,rfl,rfl,_,rfl,?_⟩
    show if decide (V.int (Vbcjaj.orMinus d.value)=V.int (-1))=true then _ else _
    rw [val_eq]
    refine ifB (fun y=>?_) (fun y=>?_)
    ·rw [y,Bool.true_and] at k
     exact ⟨_,rfl,_,rfl,M,hs,sa,h,_,rfl,S1,_,rfl,k⟩
    ·rw [y,Bool.false_and] at k
     exact k
   ·rw [z,Bool.false_and] at k
    exact k
def wayOf (d:Vbcjaj.Doing) (it:Vbcjaj.Item):List Nat:=if d.rescued=true then it.rescue else it.leave
def spWay (t:Ad):Sp:=fun vs H Q _=>∃ (M:List Addr) (hs sa:Addr) (h:Vbcjaj.House) (g:Vbcjaj.Stage) (d:Vbcjaj.Doing) (it:Vbcjaj.Item),vs=[.ref hs,.ref sa]∧ShowOn t M H hs sa h g∧g.doing=some d∧Vbcjaj.itemAt h d.item=some it∧∀ a,H a=some (.lst (nv (wayOf d it)))→a∉M→Q (.ref a) H
theorem scWay:FnScope ["house","show","item"] ["house","show"] (defScope s_way_taken):=⟨rfl,rfl,rfl,by decide +kernel,rfl,by decide +kernel,by decide +kernel⟩
theorem ok_way (T:Tx K mg t):FnOk P w K mg base CX0 5 t.f_way_taken t.d_way_taken ["house","show"] (spWay t):=by
 refine T.x_way_taken.F.ok scWay (fun vs H Q E h=>?_) (fun cdv A outer s H vs Q E hr h=>?_)
 ·obtain ⟨M,hs,sa,h,g,d,it,rfl,_⟩:=h
  rfl
 ·obtain ⟨M,hs,sa,h,g,d,it,rfl,S0,hd,hi,k⟩:=h
  refine ⟨_,pss_cons (ps_set (i:=2) scWay.nd rfl (Or.inl rfl) (pe_call (ok_itemAt T) (hr.mono (by decide)) rfl T.x_item_at.m T.x_item_at.F.kp T.x_item_at.b .nil pass0 (pa_cons (pv 0) (pa_cons (pe_fld (pv 1) rfl) pa_nil))))
   (pss_one (ps_ret (pe_ifExp (pt_val (pe_call (ok_resc T) hr rfl T.x_is_rescued.m T.x_is_rescued.F.kp T.x_is_rescued.b .nil pass0 (pa_cons (pv 0) (pa_cons (pv 1) pa_nil)))) (pe_fld (pv 2) rfl) (pe_fld (pv 2) rfl)))),?_⟩
  have S1:=S0
  obtain ⟨ih,⟨dx,ba,aa,da,wa,ob⟩,W⟩:=S0
  obtain ⟨ac,be,se,dg,wi,lo,mi⟩:=g
  subst hd
  refine ⟨_,rfl,_,rfl,sa,_,dx,_,_,rfl,ob,T.cl_Show,T.no_Show_doing,rfl,M,hs,d.item,h,rfl,ih,fun v hv=>?_⟩
  rw [hi] at hv
  obtain ⟨x,rfl,n,l,r,⟨dz,io⟩,i1,i2,i3,_,m1,m2,m3⟩:=hv.some_
  refine ⟨_,rfl,_,rfl,M,hs,sa,h,_,rfl,S1,_,rfl,?_⟩
  show if d.rescued=true then _ else _
  unfold wayOf at k
  cases hre:d.rescued with
  | true =>
   rw [hre,if_pos rfl] at k
   exact iteT ⟨_,rfl,x,_,dz,_,_,rfl,io,T.cl_Item,T.no_Item_rescue,rfl,k r i3 m3⟩
  | false =>
   rw [hre,if_neg (by simp)] at k
   exact iteF ⟨_,rfl,x,_,dz,_,_,rfl,io,T.cl_Item,T.no_Item_leave,rfl,k l i2 m2⟩
def refI (s:Vbcjaj.State):Int:=match s.stage with
 | none=>-3
 | some g=>match g.doing with
  | none=>-5
  | some _=>0
def spRefD (t:Ad):Sp:=fun vs H Q _=>∃ (M:List Addr) (ln:Addr) (s:Vbcjaj.State),vs=[.ref ln]∧LineSt t (SAc t) M H ln s∧Q (.int (refI s)) H
theorem scRefD:FnScope ["line"] ["line"] (defScope s_refusal_unless_doing):=⟨rfl,rfl,rfl,by decide +kernel,rfl,by decide +kernel,by decide +kernel⟩
theorem ok_refD (T:Tx K mg t):FnOk P w K mg base CX0 1 t.f_refusal_unless_doing t.d_refusal_unless_doing ["line"] (spRefD t):=by
 refine T.x_refusal_unless_doing.F.ok scRefD (fun vs H Q E h=>?_) (fun cdv A outer s H vs Q E hr h=>?_)
 ·obtain ⟨M,ln,s,rfl,_⟩:=h
  rfl
 ·obtain ⟨M,ln,st,rfl,LS,k⟩:=h
  refine ⟨_,pss_cons (ps_if (pt_cmp (pc_isN (pe_fld (pv 0) rfl))) (pss_one (ps_ret (pe_const rfl T.k_SHOW_ON_OR_OFF))) pss_nil)
   (pss_cons (ps_if (pt_cmpR op_eq (pe_fld (pe_fld (pv 0) rfl) rfl) (pe_const rfl T.k_NO_ITEM) (nomark _)) (pss_one (ps_ret (pe_const rfl T.k_BUSY_OR_IDLE))) pss_nil)
   (pss_one (ps_ret pe_int))),?_⟩
  obtain ⟨dx,hs,v,pa,ta,ra,ba,ts,rs,SM,rfl,L⟩:=LS
  refine ⟨_,rfl,ln,_,dx,_,_,rfl,L.ob,T.cl_Line,T.no_Line_show,rfl,_,rfl,?_⟩
  have hsh:=L.sh
  have lob:=L.ob
  clear L
  obtain ⟨h,sg⟩:=st
  cases sg with
  | none =>
   obtain ⟨rfl,rfl⟩:=hsh
   exact iteT k
  | some g =>
   obtain ⟨sa,rfl,dz,ba',aa,da,wa,ds,cs,rfl,X⟩:=hsh
   refine iteF ?_
   obtain ⟨ac,be,se,dg,wi,lo,mi⟩:=g
   cases dg with
   | none=>exact ⟨_,rfl,ln,_,dx,_,_,rfl,lob,T.cl_Line,T.no_Line_show,rfl,sa,_,dz,_,_,rfl,X.ob,T.cl_Show,T.no_Show_doing,rfl,rfl,_,rfl,iteT k⟩
   | some d =>
    refine ⟨_,rfl,ln,_,dx,_,_,rfl,lob,T.cl_Line,T.no_Line_show,rfl,sa,_,dz,_,_,rfl,X.ob,T.cl_Show,T.no_Show_doing,rfl,rfl,_,rfl,?_⟩
    show if decide (V.int ((d.item:Nat):Int)=V.int (-1))=true then _ else _
    rw [nat_ne]
    exact iteF k
end
structure Chg (SM:List Addr) (H H':Hp):Prop where
 kp:∀ b o,H b=some o→b∉SM→H' b=some o
 al:∀ b o,H b=some o→∃ o',H' b=some o'
theorem Chg.same {SM:List Addr} {H H':Hp} (e:Same H H'):Chg SM H H':=⟨fun b o q _=>e b o q,fun b o q=>⟨o,e b o q⟩⟩
theorem Chg.upd {SM:List Addr} {H:Hp} {m:Addr} {o:HO} (hm:m∈SM):Chg SM H (L2.upd H m o):=by
 refine ⟨fun b u q hb=>?_,fun b u q=>?_⟩
 ·rw [upd_ne (fun z=>hb (by rw [z];exact hm))]
  exact q
 ·by_cases z:b=m
  ·exact ⟨o,by rw [z,upd_same]⟩
  ·exact ⟨u,by rw [upd_ne z];exact q⟩
theorem Chg.trans {SM:List Addr} {H H1 H2:Hp} (a:Chg SM H H1) (b:Chg SM H1 H2):Chg SM H H2 :=
 ⟨fun c o q hc=>b.kp c o (a.kp c o q hc) hc,fun c o q=>let ⟨o',q'⟩:=a.al c o q;b.al c o' q'⟩
theorem Chg.free {SM:List Addr} {H H':Hp} (a:Chg SM H H') {b:Addr} (h:H' b=none):H b=none:=by
 cases e:H b with
 | none=>rfl
 | some o =>
  obtain ⟨o',q⟩:=a.al b o e
  rw [h] at q
  cases q
theorem nd_show {ln hs ta ra sa ba da wa:Addr} {cs:List Addr} (nd:(ln::hs::ta::ra::sa::ba::da::wa::cs).Nodup):(sa≠ba∧sa≠da∧sa≠wa∧sa∉cs)∧(ba≠da∧ba≠wa∧ba∉cs)∧(da≠wa∧da∉cs)∧wa∉cs∧cs.Nodup:=by
 simp only [List.nodup_cons,List.mem_cons,not_or] at nd
 obtain ⟨_,_,_,_,a,b,c,d,e⟩:=nd
 exact ⟨a,b,c,d,e⟩
theorem ne_in {a c:Addr} {l:List Addr} (h:a∉l) (hc:c∈l):c≠a:=fun z=>h (by rw [← z];exact hc)
theorem nd_mk {sa ba da wa:Addr} {cs cs':List Addr} {ln hs ta ra:Addr} {H:Hp} {o1 o2 o3 o4:HO} (nd:(ln::hs::ta::ra::sa::ba::da::wa::cs).Nodup) (h1:H sa=some o1) (h2:H ba=some o2) (h3:H da=some o3) (h4:H wa=some o4) (n':cs'.Nodup) (fr:∀ m∈cs',m∈cs∨H m=none):(sa::ba::da::wa::cs').Nodup:=by
 obtain ⟨⟨a1,a2,a3,a4⟩,⟨b1,b2,b3⟩,⟨c1,c2⟩,d1,_⟩:=nd_show nd
 have q:∀ {b:Addr} {o:HO},H b=some o→b∉cs→b∉cs':=fun {b o} e hb z=>by
  rcases fr b z with q | q
  ·exact hb q
  ·rw [e] at q;cases q
 simp only [List.nodup_cons,List.mem_cons,not_or]
 exact ⟨⟨a1,a2,a3,q h1 a4⟩,⟨b1,b2,q h2 b3⟩,⟨c1,q h3 c2⟩,q h4 d1,n'⟩
theorem ins_get {α β:Type} {R:α→β→Prop} {x:α} {y:β} (hxy:R x y):∀ (j:Nat) {as:List α} {bs:List β},as.length=bs.length→(∀ (i:Nat) a b,as[i]?=some a→bs[i]?=some b→R a b)→∀ (i:Nat) a b,(as.take j++x::as.drop j)[i]?=some a→(bs.take j++y::bs.drop j)[i]?=some b→R a b
 | 0,as,bs,_,h,i,a,b,h1,h2=>by
  cases i with
  | zero=>cases h1;cases h2;exact hxy
  | succ i=>exact h i a b h1 h2
 | j + 1,[],[],_,h,i,a,b,h1,h2=>by
  cases i with
  | zero=>cases h1;cases h2;exact hxy
  | succ i=>cases h1
 | j + 1,a'::as,b'::bs,hl,h,i,a,b,h1,h2=>by
  cases i with
  | zero=>exact h 0 a b h1 h2
  | succ i=>exact ins_get hxy j (as:=as) (bs:=bs) (by simpa using hl) (fun i a b q1 q2=>h (i + 1) a b q1 q2) i a b h1 h2
theorem del_get {α β:Type} {R:α→β→Prop} {as:List α} {bs:List β} (h:∀ (i:Nat) a b,as[i]?=some a→bs[i]?=some b→R a b) (j:Nat):∀ (i:Nat) a b,(as.eraseIdx j)[i]?=some a→(bs.eraseIdx j)[i]?=some b→R a b:=fun i a b h1 h2=>by
 rw [List.getElem?_eraseIdx] at h1 h2
 split at h1
 ·rename_i q
  rw [if_pos q] at h2
  exact h i a b h1 h2
 ·rename_i q
  rw [if_neg q] at h2
  exact h (i + 1) a b h1 h2
theorem map_erase {α β:Type} (f:α→β):∀ (l:List α) (k:Nat),(l.map f).eraseIdx k=(l.eraseIdx k).map f
 | [],k=>by cases k <;> rfl
 | _::_,0=>rfl
 | a::l,k + 1=>by
  show f a::(l.map f).eraseIdx k=f a::(l.eraseIdx k).map f
  rw [map_erase f l k]
section
variable {P:Program} {w:World} {K:PySem.W.Frag} {mg:Str→Option Value} {base:Heap} {t:Ad} {SA:SRel}
theorem LineAt.houseC {H H':Hp} {ln:Addr} {s:Vbcjaj.State} {dx hs:Addr} {v:V} {pa ta ra ba:Addr} {ts rs SM:List Addr} (L:LineAt t SA H ln s dx hs v pa ta ra ba ts rs SM) (c:Chg SM H H'):HouseAt t (ln::hs::ta::ra::SM) H' hs s.house pa ta ra ba ts rs:=by
 have nd0:=L.nd
 simp only [List.nodup_cons,List.mem_cons,not_or] at nd0
 obtain ⟨⟨_,_,_,q1⟩,⟨_,_,q2⟩,⟨_,q3⟩,q4,_⟩:=nd0
 exact L.house.step (fun b o e hb=>c.kp b o e fun z=>hb (by simp [z])) (fun _ hm=>.inl hm) (fun o e=>c.kp _ _ e q2) (fun o e=>c.kp _ _ e q3) (fun o e=>c.kp _ _ e q4)
theorem LineAt.obC {H H':Hp} {ln:Addr} {s:Vbcjaj.State} {dx hs:Addr} {v:V} {pa ta ra ba:Addr} {ts rs SM:List Addr} (L:LineAt t SA H ln s dx hs v pa ta ra ba ts rs SM) (c:Chg SM H H'):H' ln=some (.ins t.c_Line dx (lineF hs v)):=by
 have nd0:=L.nd
 simp only [List.nodup_cons,List.mem_cons,not_or] at nd0
 exact c.kp _ _ L.ob nd0.1.2.2.2
theorem LineSt.wfg {M:List Addr} {H:Hp} {ln:Addr} {s:Vbcjaj.State} (x:LineSt t (SAc t) M H ln s):∀ g,s.stage=some g→WfG s.house g:=fun g e=>by
 obtain ⟨dx,hs,v,pa,ta,ra,ba,ts,rs,SM,rfl,L⟩:=x
 have q:=L.sh
 rw [e] at q
 obtain ⟨sa,rfl,_,_,_,_,_,_,_,_,X⟩:=q
 exact X.wf
theorem ShA.kept {ln hs ta ra:Addr} {SM SM':List Addr} {H H':Hp} {sa:Addr} {h:Vbcjaj.House} {g:Vbcjaj.Stage} {dx ba aa da wa:Addr} {ds cs:List Addr} (X:ShA t (ln::hs::ta::ra::SM) H sa h g dx ba aa da wa ds cs) (c:Chg SM H H') (th:∀ m∈SM',m∈SM∨H m=none) :
  (H' aa=some (.lst (nv g.actual))∧aa∉ln::hs::ta::ra::SM')∧∀ (i:Nat) (d:Addr) (e:Vbcjaj.Entry),ds[i]?=some d→g.log[i]?=some e→d∉ln::hs::ta::ra::SM'∧∃ dd,H' d=some (.ins t.c_Done dd (doneF e)):=by
 have nm:∀ {b:Addr} {o:HO},H b=some o→b∉ln::hs::ta::ra::SM→b∉ln::hs::ta::ra::SM':=fun {b o} e hb z=>by
  simp only [List.mem_cons,not_or] at hb z
  rcases z with z | z | z | z | z
  ·exact hb.1 z
  ·exact hb.2.1 z
  ·exact hb.2.2.1 z
  ·exact hb.2.2.2.1 z
  ·rcases th b z with q | q
   ·exact hb.2.2.2.2 q
   ·rw [e] at q;cases q
 have k:∀ {b:Addr} {o:HO},H b=some o→b∉ln::hs::ta::ra::SM→H' b=some o:=fun {b o} e hb=>c.kp b o e fun z=>hb (by simp [z])
 refine ⟨⟨k X.ac X.ma,nm X.ac X.ma⟩,fun i d e h1 h2=>?_⟩
 obtain ⟨m,dd,q⟩:=X.de i d e h1 h2
 exact ⟨nm q m,dd,k q m⟩
theorem fin_show {H H2:Hp} {ln:Addr} {s:Vbcjaj.State} {dx hs:Addr} {pa ta ra ba:Addr} {ts rs SM SM':List Addr} {sa:Addr} {g':Vbcjaj.Stage} {ans:List Int} {Q:VK} (L:LineAt t (SAc t) H ln s dx hs (.ref sa) pa ta ra ba ts rs SM)
  (k:newSt t (SAc t) (ln::hs::ta::ra::SM) H ln (⟨s.house,some g'⟩,ans) Q) (c:Chg SM H H2) (th:∀ m∈SM',m∈SM∨H m=none) (nd:SM'.Nodup) (sh:SAc t (ln::hs::ta::ra::SM') H2 sa s.house g' SM') (vs:List V) (e:vs=ans.map V.int) :
  ∀ D,H2 D=none→Q (.ref D) (upd H2 D (.lst vs)):=by
 refine newSt.fin (SAc_stable t) k (L.shift (fun b o q hb _=>c.kp b o q hb) (L.obC c) th nd sh) (fun b o q hb=>c.kp b o q fun z=>hb (by simp [z])) (fun m hm=>?_) (fun m hm=>?_) vs e
 ·have LS:LineSt t (SAc t) (ln::hs::ta::ra::SM) H ln s:=⟨dx,hs,_,pa,ta,ra,ba,ts,rs,SM,rfl,L⟩
  obtain ⟨o,q⟩:=LS.there (SAc_stable t) m hm
  exact c.al m o q
 ·simp only [List.mem_cons] at hm ⊢
  rcases hm with z | z | z | z | z
  ·exact .inl (.inl z)
  ·exact .inl (.inr (.inl z))
  ·exact .inl (.inr (.inr (.inl z)))
  ·exact .inl (.inr (.inr (.inr (.inl z))))
  ·rcases th m z with q | q
   ·exact .inl (.inr (.inr (.inr (.inr q))))
   ·exact .inr q
theorem bad1 {M:List Addr} {H H1:Hp} {ln:Addr} {s:Vbcjaj.State} {r:Vbcjaj.State × List Int} {c:Int} {D:Ends} {σ:L2.St} (LS:LineSt t (SAc t) M H ln s) (k:newSt t (SAc t) M H ln r D.rt) (e:r=(s,[c])) (s1:Same H H1):tRet (tLst (tCons (tC (.int c)) tNil)) D σ H1:=by
 subst e
 exact ⟨by show 1≤sizeLine;decide,(k.stay (SAc_stable t) LS).one s1 _ rfl⟩
theorem bad2 {M:List Addr} {H H1:Hp} {ln:Addr} {s:Vbcjaj.State} {r:Vbcjaj.State × List Int} {c:Int} {D:Ends} {σ:L2.St} {i:Nat} (hσ:σ[i]?=some (some (.int c))) (LS:LineSt t (SAc t) M H ln s) (k:newSt t (SAc t) M H ln r D.rt) (e:r=(s,[c])) (s1:Same H H1):tRet (tLst (tCons (tVar i) tNil)) D σ H1:=by
 subst e
 exact ⟨_,hσ,by show 1≤sizeLine;decide,(k.stay (SAc_stable t) LS).one s1 _ rfl⟩
theorem ne0 (z:Int):(!decide (V.int z=V.int 0))=decide (z≠0):=by
 by_cases e:z=0
 ·rw [e];simp
 ·rw [decide_eq_true e,decide_eq_false (fun q=>e (by injection q))];rfl
theorem onItem_cases {s:Vbcjaj.State} (W:∀ g,s.stage=some g→WfG s.house g) (f:Vbcjaj.Stage→Vbcjaj.Doing→Vbcjaj.Item→Vbcjaj.State × Vbcjaj.Answer):(refI s≠0∧Vbcjaj.onItem s f=(s,[refI s]))∨(refI s=0∧∃ g d it,s.stage=some g∧g.doing=some d∧Vbcjaj.itemAt s.house d.item=some it∧Vbcjaj.onItem s f=f g d it):=by
 unfold refI Vbcjaj.onItem Vbcjaj.onStage
 cases hs:s.stage with
 | none=>exact .inl ⟨by decide,rfl⟩
 | some g =>
  try dsimp only
  cases hd:g.doing with
  | none=>exact .inl ⟨by decide,rfl⟩
  | some d =>
   obtain ⟨it,hi,_⟩:=(W g hs).dg d hd
   refine .inr ⟨rfl,g,d,it,rfl,hd,hi,?_⟩
   try dsimp only
   rw [hi]
def plcI (s:Vbcjaj.State) (v:Int):Int:=if Vbcjaj.inside v 0 19=false then -1 else if refI s≠0 then refI s else match s.stage with
 | none=>0
 | some g=>if v.toNat < g.wire.length then 0 else -12
theorem onCue_cases {s:Vbcjaj.State} (W:∀ g,s.stage=some g→WfG s.house g) (v:Int) (f:Vbcjaj.Stage→Vbcjaj.Doing→Vbcjaj.Item→Vbcjaj.Cue→Vbcjaj.State × Vbcjaj.Answer) :
  (plcI s v≠0∧Vbcjaj.onCue s v f=(s,[plcI s v]))∨(plcI s v=0∧∃ g d it c,s.stage=some g∧g.doing=some d∧Vbcjaj.itemAt s.house d.item=some it∧g.wire[v.toNat]?=some c∧0≤v∧v≤19∧Vbcjaj.onCue s v f=f g d it c):=by
 have eo:Vbcjaj.onCue s v f=if Vbcjaj.inside v 0 19=false then Vbcjaj.no s (-1) else Vbcjaj.onItem s fun g d t=>match g.wire[v.toNat]? with
   | none=>Vbcjaj.no s (-12)
   | some c=>f g d t c:=rfl
 cases hin:Vbcjaj.inside v 0 19 with
 | false =>
  have ep:plcI s v=-1:=by unfold plcI;rw [hin,if_pos rfl]
  refine .inl ⟨by rw [ep];decide,?_⟩
  rw [eo,hin,if_pos rfl,ep]
  rfl
 | true =>
  have ep:plcI s v=if refI s≠0 then refI s else match s.stage with
   | none=>0
   | some g=>if v.toNat < g.wire.length then 0 else -12:=by unfold plcI;rw [hin,if_neg (by simp)]
  rw [hin,if_neg (by simp)] at eo
  rcases onItem_cases W (fun g d t=>match g.wire[v.toNat]? with
   | none=>Vbcjaj.no s (-12)
   | some c=>f g d t c) with ⟨h1,h2⟩ | ⟨h1,g,d,it,hs,hd,hi,h2⟩
  ·rw [if_pos h1] at ep
   refine .inl ⟨by rw [ep];exact h1,?_⟩
   rw [eo,ep]
   exact h2
  ·have h19:0≤v∧v≤19:=by unfold Vbcjaj.inside at hin;simpa using hin
   rw [if_neg (by rw [h1];decide),hs] at ep
   dsimp only at ep
   rw [h2] at eo
   cases hw:g.wire[v.toNat]? with
   | none =>
    have:g.wire.length≤v.toNat:=List.getElem?_eq_none_iff.mp hw
    rw [if_neg (by omega)] at ep
    rw [hw] at eo
    refine .inl ⟨by rw [ep];decide,?_⟩
    rw [eo,ep]
    rfl
   | some c =>
    have:v.toNat < g.wire.length:=(List.getElem?_eq_some_iff.mp hw).1
    rw [if_pos this] at ep
    rw [hw] at eo
    exact .inr ⟨ep,g,d,it,c,hs,hd,hi,hw,h19.1,h19.2,eo⟩
def spOne (t:Ad) (mk:Int→Vbcjaj.Call):Sp:=fun vs H Q _=>∃ (M:List Addr) (ln:Addr) (s:Vbcjaj.State) (v:Int),vs=[.ref ln,.int v]∧LineSt t (SAc t) M H ln s∧newSt t (SAc t) M H ln (Vbcjaj.step s (mk v)) Q
theorem cue_made {H:Hp} {p dx:Addr} {x:Vbcjaj.Cue} (np:H p=none) (nd:H dx=none) (ne:dx≠p):Same H (upd (upd (upd H dx (.own p)) p (.ins t.c_Cue dx [])) p (.ins t.c_Cue dx (cueF x)))∧upd (upd (upd H dx (.own p)) p (.ins t.c_Cue dx [])) p (.ins t.c_Cue dx (cueF x)) p=some (.ins t.c_Cue dx (cueF x)) :=
 ⟨fun c u e=>by rw [upd_ne (ne_of_none e np),upd_ne (ne_of_none e np),upd_ne (ne_of_none e nd)];exact e,upd_same⟩
def spPlc (t:Ad):Sp:=fun vs H Q _=>∃ (M:List Addr) (ln:Addr) (s:Vbcjaj.State) (v:Int),vs=[.ref ln,.int v]∧LineSt t (SAc t) M H ln s∧Q (.int (plcI s v)) H
theorem scPlc:FnScope ["line","place","refusal"] ["line","place"] (defScope s_refusal_of_place):=⟨rfl,rfl,rfl,by decide +kernel,rfl,by decide +kernel,by decide +kernel⟩
theorem ok_plc (T:Tx K mg t):FnOk P w K mg base CX0 2 t.f_refusal_of_place t.d_refusal_of_place ["line","place"] (spPlc t):=by
 refine T.x_refusal_of_place.F.ok scPlc (fun vs H Q E h=>?_) (fun cdv A outer s H vs Q E hr h=>?_)
 ·obtain ⟨M,ln,s,v,rfl,_⟩:=h
  rfl
 ·obtain ⟨M,ln,st,v,rfl,LS,k⟩:=h
  refine ⟨_,pss_cons (ps_if (pt_not (pt_val (pe_call (ok_within T) hr rfl T.x_within.m T.x_within.F.kp T.x_within.b .nil pass0 (pa_cons (pv 1) (pa_cons pe_int (pa_cons (pe_op op_sub (pe_const rfl T.k_MOST_CUES) pe_int) pa_nil)))))) (pss_one (ps_ret (pe_const rfl T.k_OUT_OF_RANGE))) pss_nil)
   (pss_cons (ps_set (i:=2) scPlc.nd rfl (Or.inl rfl) (pe_call (ok_refD T) hr rfl T.x_refusal_unless_doing.m T.x_refusal_unless_doing.F.kp T.x_refusal_unless_doing.b .nil pass0 (pa_cons (pv 0) pa_nil)))
   (pss_cons (ps_if (pt_cmpR op_ne (pv 2) pe_int (nomark _)) (pss_one (ps_ret (pv 2))) pss_nil)
   (pss_one (ps_ret (pe_ifExp (pt_cmpR op_lt (pv 1) (pe_callB call_len_seq rfl T.n_len PySem.boot_len (pa_cons (pe_fld (pe_fld (pv 0) rfl) rfl) pa_nil)) (nomark _)) pe_int (pe_const rfl T.k_NO_CUE_AT_PLACE)))))),?_⟩
  refine ⟨_,rfl,_,_,rfl,rfl,v,0,20 - 1,rfl,_,rfl,?_⟩
  have e0:inR v 0 (20 - 1)=Vbcjaj.inside v 0 19:=rfl
  rw [e0]
  unfold plcI at k
  cases hin:Vbcjaj.inside v 0 19 with
  | false =>
   rw [hin,if_pos rfl] at k
   exact iteT k
  | true =>
   rw [hin,if_neg (by simp)] at k
   refine iteF ?_
   refine ⟨_,rfl,M,ln,st,rfl,LS,?_⟩
   refine ⟨_,rfl,rfl,_,rfl,?_⟩
   rw [ne0]
   refine ifB (fun z=>?_) (fun z=>?_)
   ·rw [if_pos (of_decide_eq_true z)] at k
    exact ⟨_,rfl,k⟩
   ·have z':refI st=0:=by have:=of_decide_eq_false z;omega
    rw [if_neg (of_decide_eq_false z)] at k
    have h19:0≤v∧v≤19:=by unfold Vbcjaj.inside at hin;simpa using hin
    obtain ⟨dx,hs,vv,pa,ta,ra,ba,ts,rs,SM,rfl,L⟩:=LS
    have hsh:=L.sh
    have lob:=L.ob
    clear L
    obtain ⟨h,sg⟩:=st
    cases sg with
    | none=>exact absurd z' (by show ¬ (-3:Int)=0;decide)
    | some g =>
     obtain ⟨sa,rfl,dz,ba',aa,da,wa,ds,cs,rfl,X⟩:=hsh
     refine ⟨_,rfl,_,rfl,ln,_,dx,_,_,rfl,lob,T.cl_Line,T.no_Line_show,rfl,sa,_,dz,_,_,rfl,X.ob,T.cl_Show,T.no_Show_wire,rfl,wa,_,rfl,.inl (SqL.of X.wr),_,_,rfl,rfl,_,rfl,?_⟩
     rw [List.length_map,X.wn]
     show if decide (v < (g.wire.length:Int))=true then _ else _
     have k2:Q (.int (if v.toNat < g.wire.length then 0 else -12)) H:=k
     refine ifB (fun y=>?_) (fun y=>?_)
     ·have y':=of_decide_eq_true y
      rw [if_pos (by omega)] at k2
      exact k2
     ·have y':=of_decide_eq_false y
      rw [if_neg (by omega)] at k2
      exact k2
end
section
variable {P:Program} {w:World} {K:PySem.W.Frag} {mg:Str→Option Value} {base:Heap} {t:Ad} {SA:SRel}
theorem scSend:FnScope ["line","value","show","refusal"] ["line","value"] (defScope s_answer_send):=⟨rfl,rfl,rfl,by decide +kernel,rfl,by decide +kernel,by decide +kernel⟩
theorem ok_send (T:Tx K mg t):FnOk P w K mg base CX0 4 t.f_answer_send t.d_answer_send ["line","value"] (spOne t .send):=by
 refine T.x_answer_send.F.ok scSend (fun vs H Q E h=>?_) (fun cdv A outer s H vs Q E hr h=>?_)
 ·obtain ⟨M,ln,s,v,rfl,_⟩:=h
  rfl
 ·obtain ⟨M,ln,st,v,rfl,LS,k⟩:=h
  refine ⟨_,pss_cons (ps_set (i:=2) scSend.nd rfl (Or.inl rfl) (pe_fld (pv 0) rfl))
   (pss_cons (ps_if (pt_not (pt_val (pe_call (ok_within T) (hr.mono (by decide)) rfl T.x_within.m T.x_within.F.kp T.x_within.b .nil pass0 (pa_cons (pv 1) (pa_cons pe_int (pa_cons (pe_const rfl T.k_MOST_VALUE) pa_nil)))))) (pss_one (ps_ret (pe_lst (pa_cons (pe_const rfl T.k_OUT_OF_RANGE) pa_nil)))) pss_nil)
   (pss_cons (ps_set (i:=3) scSend.nd rfl (Or.inl rfl) (pe_call (ok_refD T) (hr.mono (by decide)) rfl T.x_refusal_unless_doing.m T.x_refusal_unless_doing.F.kp T.x_refusal_unless_doing.b .nil pass0 (pa_cons (pv 0) pa_nil)))
   (pss_cons (ps_if (pt_cmpR op_ne (pv 3) pe_int (nomark _)) (pss_one (ps_ret (pe_lst (pa_cons (pv 3) pa_nil)))) pss_nil)
   (pss_cons (ps_if (pt_not (pt_val (pe_call (ok_wants T) hr rfl T.x_wants_cue.m T.x_wants_cue.F.kp T.x_wants_cue.b .nil pass0 (pa_cons (pe_fld (pv 0) rfl) (pa_cons (pv 2) pa_nil))))) (pss_one (ps_ret (pe_lst (pa_cons (pe_const rfl T.k_NO_CUE_WANTED) pa_nil)))) pss_nil)
   (pss_cons (ps_if (pt_cmpR op_eq (pe_callB call_len_seq rfl T.n_len PySem.boot_len (pa_cons (pe_fld (pv 2) rfl) pa_nil)) (pe_const rfl T.k_MOST_CUES) (nomark _)) (pss_one (ps_ret (pe_lst (pa_cons (pe_const rfl T.k_FULL) pa_nil)))) pss_nil)
   (pss_cons (ps_fldaug (pv 2) pe_int in_add)
   (pss_cons (ps_expr (pe_bm PySem.F.plainAttrs_list PySem.F.slot_list_append PySem.F.type_list_append mt_append (pe_fld (pv 2) rfl) (pa_cons (pe_make T.mk_Cue (ok_cueInit T) (hr.mono (by decide)) rfl T.mg_Cue T.b_Cue_init .nil pass0 (pa_cons (pe_fld (pv 2) rfl) (pa_cons (pe_fld (pv 2) rfl) (pa_cons (pv 1) (pa_cons pe_int pa_nil))))) pa_nil)))
   (pss_one (ps_ret (pe_lst (pa_cons (pe_fld (pv 2) rfl) pa_nil))))))))))),?_⟩
  have LS0:=LS
  have W:=LS.wfg
  obtain ⟨dx,hs,vv,pa,ta,ra,ba,ts,rs,SM,rfl,L⟩:=LS
  refine ⟨_,rfl,ln,_,dx,_,_,rfl,L.ob,T.cl_Line,T.no_Line_show,rfl,?_⟩
  refine ⟨_,rfl,v,0,99,rfl,_,rfl,?_⟩
  have estep:Vbcjaj.step st (.send v)=if inR v 0 99=false then Vbcjaj.no st (-1) else Vbcjaj.onItem st fun g d t=>if t.wait=0 then Vbcjaj.no st (-11) else if 20≤g.wire.length then Vbcjaj.no st (-7)
   else (Vbcjaj.set st { g with doing:=some { d with sent:=d.sent + 1 },wire:=g.wire++[⟨g.serial,d.sent + 1,v.toNat,0⟩] },[Vbcjaj.whole (d.sent + 1)]):=rfl
  cases c1:inR v 0 99 with
  | false=>exact iteT (bad1 LS0 k (by rw [estep,c1,if_pos rfl];rfl) (Same.refl _))
  | true =>
   rw [c1,if_neg (by simp)] at estep
   refine iteF ?_
   refine ⟨_,rfl,_,ln,st,rfl,LS0,?_⟩
   refine ⟨_,rfl,rfl,_,rfl,?_⟩
   rw [ne0]
   rcases onItem_cases W (fun g d t=>if t.wait=0 then Vbcjaj.no st (-11) else if 20≤g.wire.length then Vbcjaj.no st (-7)
   else (Vbcjaj.set st { g with doing:=some { d with sent:=d.sent + 1 },wire:=g.wire++[⟨g.serial,d.sent + 1,v.toNat,0⟩] },[Vbcjaj.whole (d.sent + 1)])) with ⟨z,e2⟩ | ⟨z,g,d,it,hst,hd,hi,e2⟩
   ·rw [decide_eq_true z]
    exact iteT (bad2 rfl LS0 k (estep.trans e2) (Same.refl _))
   ·rw [decide_eq_false (fun q=>q z)]
    refine iteF ?_
    rw [e2] at estep
    have v99:0≤v∧v≤99:=by unfold inR at c1;simpa using c1
    have ev:v=((v.toNat:Nat):Int):=by omega
    have hsh:=L.sh
    rw [hst] at hsh
    obtain ⟨sa,rfl,dz,bl,aa,da,wa,ds,cs,rfl,X⟩:=hsh
    have on:ShowOn t (ln::hs::ta::ra::sa::bl::da::wa::cs) H hs sa st.house g:=⟨⟨pa,ta,ra,ba,ts,rs,L.house⟩,⟨dz,bl,aa,da,wa,X.ob⟩,X.wf⟩
    obtain ⟨ac,be,se,dg,wi,lo,mi⟩:=g
    have hd':dg=some d:=hd
    subst hd'
    refine ⟨_,rfl,ln,_,dx,_,_,rfl,L.ob,T.cl_Line,T.no_Line_house,rfl,_,rfl,_,hs,sa,st.house,_,rfl,on,_,rfl,?_⟩
    have ew:wantsB st.house ⟨ac,be,se,some d,wi,lo,mi⟩=decide (0 < it.wait):=by unfold wantsB;dsimp only;rw [hi]
    rw [ew]
    by_cases hw:it.wait=0
    ·rw [decide_eq_false (by omega)]
     rw [if_pos hw] at estep
     exact iteT (bad1 LS0 k estep (Same.refl _))
    ·rw [decide_eq_true (by omega)]
     rw [if_neg hw] at estep
     refine iteF ?_
     refine ⟨_,rfl,sa,_,dz,_,_,rfl,X.ob,T.cl_Show,T.no_Show_wire,rfl,wa,_,rfl,.inl (SqL.of X.wr),rfl,_,rfl,?_⟩
     have wl:=X.wf.wl
     have wn:cs.length=wi.length:=X.wn
     dsimp only at wl estep
     rw [List.length_map,wn]
     show if decide (V.int (wi.length:Int)=V.int ((20:Nat):Int))=true then _ else _
     rw [dec_int_eq]
     refine ifB (fun y=>?_) (fun y=>?_)
     ·have y':=of_decide_eq_true y
      rw [if_pos (by omega)] at estep
      exact bad1 LS0 k estep (Same.refl _)
     ·have y':=of_decide_eq_false y
      rw [if_neg (by omega)] at estep
      rw [estep] at k
      obtain ⟨⟨a1,a2,a3,a4⟩,⟨b1,b2,b3⟩,⟨c1,c2⟩,d1,cnd⟩:=nd_show L.nd
      refine ⟨_,rfl,sa,_,dz,_,_,rfl,X.ob,T.cl_Show,T.no_Show_sent,rfl,_,_,rfl,rfl,dz,_,X.ob,by show 10 < 1000;decide,?_⟩
      have ch1:Chg (sa::bl::da::wa::cs) H (upd H sa (.ins t.c_Show dz (putF "sent" (.int (sI (some d) + 1)) (showG bl aa da wa ⟨ac,be,se,some d,wi,lo,mi⟩)))):=Chg.upd (by simp)
      have ob1:upd H sa (.ins t.c_Show dz (putF "sent" (.int (sI (some d) + 1)) (showG bl aa da wa ⟨ac,be,se,some d,wi,lo,mi⟩))) sa=some (.ins t.c_Show dz (showG bl aa da wa ⟨ac,be,se,some { d with sent:=d.sent + 1 },wi,lo,mi⟩)):=by rw [upd_same];rfl
      have oth1:∀ b,b≠sa→upd H sa (.ins t.c_Show dz (putF "sent" (.int (sI (some d) + 1)) (showG bl aa da wa ⟨ac,be,se,some d,wi,lo,mi⟩))) b=H b:=fun b hb=>upd_ne hb
      generalize upd H sa (.ins t.c_Show dz (putF "sent" (.int (sI (some d) + 1)) (showG bl aa da wa ⟨ac,be,se,some d,wi,lo,mi⟩)))=H1 at ch1 ob1 oth1 ⊢
      have wr1:H1 wa=some (.lst (cs.map V.ref)):=by rw [oth1 _ a3.symm];exact X.wr
      refine ⟨_,rfl,sa,_,dz,_,_,rfl,ob1,T.cl_Show,T.no_Show_wire,rfl,Or.inl ⟨rfl,_,SqL.of wr1⟩,_,rfl,sa,_,dz,_,_,rfl,ob1,T.cl_Show,T.no_Show_serial,rfl,_,rfl,sa,_,dz,_,_,rfl,ob1,T.cl_Show,T.no_Show_sent,rfl,_,rfl,fun x dx' nx nd ne=>?_⟩
      refine ⟨x,dx',⟨se,d.sent + 1,v.toNat,0⟩,by show _=[V.ref x,V.int (se:Int),V.int ((d.sent + 1:Nat):Int),V.int ((v.toNat:Nat):Int),V.int ((0:Nat):Int)];rw [← ev];rfl,upd_same,rfl,?_⟩
      obtain ⟨s2,hx2⟩:=cue_made (t:=t) (x:=⟨se,d.sent + 1,v.toNat,0⟩) nx nd ne
      generalize upd (upd (upd H1 dx' (.own x)) x (.ins t.c_Cue dx' [])) x (.ins t.c_Cue dx' (cueF ⟨se,d.sent + 1,v.toNat,0⟩))=H2 at s2 hx2 ⊢
      refine ⟨wa,_,_,rfl,rfl,s2 _ _ wr1,by rw [List.length_map,wn];exact small1000 (by omega),?_⟩
      have nxw:x≠wa:=fun z=>by rw [z,wr1] at nx;cases nx
      refine ⟨_,rfl,sa,_,dz,_,_,rfl,by rw [upd_ne a3];exact s2 _ _ ob1,T.cl_Show,T.no_Show_sent,rfl,by show 1≤sizeLine;decide,?_⟩
      have nxH:H x=none:=ch1.free nx
      have xcs:x∉cs:=fun z=>by
       obtain ⟨o,q⟩:=LS0.there (SAc_stable t) x (by simp [z])
       rw [nxH] at q;cases q
      have th:∀ m∈sa::bl::da::wa::(cs++[x]),m∈sa::bl::da::wa::cs∨H m=none:=fun m hm=>by
       simp only [List.mem_cons,List.mem_append,List.not_mem_nil,or_false] at hm ⊢
       rcases hm with q | q | q | q | q | q
       ·exact .inl (.inl q)
       ·exact .inl (.inr (.inl q))
       ·exact .inl (.inr (.inr (.inl q)))
       ·exact .inl (.inr (.inr (.inr (.inl q))))
       ·exact .inl (.inr (.inr (.inr (.inr q))))
       ·exact .inr (by rw [q];exact nxH)
      have ch:Chg (sa::bl::da::wa::cs) H (upd H2 wa (.lst (cs.map V.ref++[.ref x]))):=(ch1.trans (Chg.same s2)).trans (Chg.upd (by simp))
      obtain ⟨⟨ac',ma'⟩,de'⟩:=X.kept ch th
      have W0:=X.wf
      refine fin_show L k ch th (nd_mk L.nd X.ob X.be X.dn X.wr (List.nodup_append.mpr ⟨cnd,by simp,fun a ha b hb=>by simp only [List.mem_cons,List.not_mem_nil,or_false] at hb;rw [hb];exact ne_in xcs ha⟩) (fun m hm=>?_)) ⟨dz,bl,aa,da,wa,ds,cs++[x],rfl,?_⟩ _ ?_
      ·simp only [List.mem_append,List.mem_cons,List.not_mem_nil,or_false] at hm
       rcases hm with q | q
       ·exact .inl q
       ·exact .inr (by rw [q];exact nxH)
      ·refine ⟨by rw [upd_ne a3];exact s2 _ _ ob1,by rw [upd_ne b2];exact s2 _ _ (by rw [oth1 _ a1.symm];exact X.be),ac',ma',by rw [upd_ne c1];exact s2 _ _ (by rw [oth1 _ a2.symm];exact X.dn),X.dl,de',by rw [upd_same,List.map_append];rfl,by show (cs++[x]).length=(wi++[_]).length;rw [List.length_append,List.length_append,wn];rfl,fun i c y h1 h2=>?_,⟨W0.al,W0.a6,W0.bl,W0.bf,by show (wi++[_]).length≤20;rw [List.length_append];show wi.length + 1≤20;omega,W0.ll,W0.lm,fun d' hd'=>?_⟩⟩
       ·have h2':(wi++[(⟨se,d.sent + 1,v.toNat,0⟩:Vbcjaj.Cue)])[i]?=some y:=h2
        by_cases hlt:i < cs.length
        ·rw [List.getElem?_append_left hlt] at h1
         rw [List.getElem?_append_left (by omega)] at h2'
         obtain ⟨dc,q⟩:=X.wc i c y h1 h2'
         have ccs:c∈cs:=List.mem_of_getElem? h1
         exact ⟨dc,by rw [upd_ne (ne_in d1 ccs)];exact s2 _ _ (by rw [oth1 _ (ne_in a4 ccs)];exact q)⟩
        ·rw [List.getElem?_append_right (by omega)] at h1
         rw [List.getElem?_append_right (by omega)] at h2'
         have i0:i - cs.length=0:=by
          have:=(List.getElem?_eq_some_iff.mp h1).1
          simp at this
          omega
         rw [i0] at h1
         rw [← wn,i0] at h2'
         cases h1
         cases h2'
         exact ⟨dx',by rw [upd_ne nxw];exact hx2⟩
       ·cases hd'
        exact W0.dg d rfl
      ·rfl
theorem scLose:FnScope ["line","place","refusal"] ["line","place"] (defScope s_answer_lose):=⟨rfl,rfl,rfl,by decide +kernel,rfl,by decide +kernel,by decide +kernel⟩
theorem th_sub {sa bl da wa:Addr} {cs cs':List Addr} {H:Hp} (h:∀ m∈cs',m∈cs∨H m=none):∀ m∈sa::bl::da::wa::cs',m∈sa::bl::da::wa::cs∨H m=none:=fun m hm=>by
 simp only [List.mem_cons] at hm ⊢
 rcases hm with q | q | q | q | q
 ·exact .inl (.inl q)
 ·exact .inl (.inr (.inl q))
 ·exact .inl (.inr (.inr (.inl q)))
 ·exact .inl (.inr (.inr (.inr (.inl q))))
 ·rcases h m q with q | q
  ·exact .inl (.inr (.inr (.inr (.inr q))))
  ·exact .inr q
theorem mem_erase {α:Type} {l:List α} {k:Nat} {a:α} (h:a∈l.eraseIdx k):a∈l:=List.mem_of_mem_eraseIdx h
theorem popped {ln hs ta ra:Addr} {H:Hp} {sa:Addr} {h:Vbcjaj.House} {g g':Vbcjaj.Stage} {dx bl aa da wa:Addr} {ds cs:List Addr} {i:Nat} (nd:(ln::hs::ta::ra::sa::bl::da::wa::cs).Nodup) (X:ShA t (ln::hs::ta::ra::sa::bl::da::wa::cs) H sa h g dx bl aa da wa ds cs)
  {H2:Hp} (ch:Chg (sa::bl::da::wa::cs) H H2) (ob:H2 sa=some (.ins t.c_Show dx (showG bl aa da wa g'))) (wr:H2 wa=some (.lst ((cs.eraseIdx i).map V.ref))) (oth:∀ b,b≠sa→b≠wa→H2 b=H b)
  (e1:g'.beliefs=g.beliefs) (e2:g'.actual=g.actual) (e3:g'.log=g.log) (e4:g'.wire=g.wire.eraseIdx i) (wf:WfG h g') (hlt:i < cs.length):SAc t (ln::hs::ta::ra::sa::bl::da::wa::cs.eraseIdx i) H2 sa h g' (sa::bl::da::wa::cs.eraseIdx i):=by
 obtain ⟨⟨a1,a2,a3,a4⟩,⟨b1,b2,b3⟩,⟨c1,c2⟩,d1,cnd⟩:=nd_show nd
 obtain ⟨⟨ac',ma'⟩,de'⟩:=X.kept ch (SM':=sa::bl::da::wa::cs.eraseIdx i) (th_sub fun m hm=>.inl (mem_erase hm))
 refine ⟨dx,bl,aa,da,wa,ds,cs.eraseIdx i,rfl,ob,by rw [oth _ a1.symm b2,e1];exact X.be,by rw [e2];exact ac',ma',by rw [oth _ a2.symm c1];exact X.dn,by rw [e3];exact X.dl,by rw [e3];exact de',wr,?_,fun j c y h1 h2=>?_,wf⟩
 ·rw [e4,List.length_eraseIdx,List.length_eraseIdx,X.wn]
 ·rw [e4] at h2
  obtain ⟨dc,q⟩:=del_get (R:=fun c y=>∃ dc,H c=some (.ins t.c_Cue dc (cueF y))) X.wc i j c y h1 h2
  have ccs:c∈cs:=mem_erase (List.mem_of_getElem? h1)
  exact ⟨dc,by rw [oth _ (ne_in a4 ccs) (ne_in d1 ccs)];exact q⟩
theorem seq_at {v:Int} {n:Nat} (h0:0≤v) (h:v.toNat < n):seqIndex? v n=some v.toNat:=seqIndex_of h0 (by omega)
theorem ok_lose (T:Tx K mg t):FnOk P w K mg base CX0 3 t.f_answer_lose t.d_answer_lose ["line","place"] (spOne t .lose):=by
 refine T.x_answer_lose.F.ok scLose (fun vs H Q E h=>?_) (fun cdv A outer s H vs Q E hr h=>?_)
 ·obtain ⟨M,ln,s,v,rfl,_⟩:=h
  rfl
 ·obtain ⟨M,ln,st,v,rfl,LS,k⟩:=h
  refine ⟨_,pss_cons (ps_set (i:=2) scLose.nd rfl (Or.inl rfl) (pe_call (ok_plc T) hr rfl T.x_refusal_of_place.m T.x_refusal_of_place.F.kp T.x_refusal_of_place.b .nil pass0 (pa_cons (pv 0) (pa_cons (pv 1) pa_nil))))
   (pss_cons (ps_if (pt_cmpR op_ne (pv 2) pe_int (nomark _)) (pss_one (ps_ret (pe_lst (pa_cons (pv 2) pa_nil)))) pss_nil)
   (pss_cons (ps_expr (pe_bm PySem.F.plainAttrs_list PySem.F.slot_list_pop PySem.F.type_list_pop mt_popAt (pe_fld (pe_fld (pv 0) rfl) rfl) (pa_cons (pv 1) pa_nil)))
   (pss_one (ps_ret (pe_lst (pa_cons (pe_callB call_len_seq rfl T.n_len PySem.boot_len (pa_cons (pe_fld (pe_fld (pv 0) rfl) rfl) pa_nil)) pa_nil)))))),?_⟩
  have LS0:=LS
  have W:=LS.wfg
  refine ⟨_,rfl,_,rfl,M,ln,st,v,rfl,LS0,?_⟩
  refine ⟨_,rfl,rfl,_,rfl,?_⟩
  rw [ne0]
  rcases onCue_cases W v (fun g _ _ _=>(Vbcjaj.set st { g with wire:=g.wire.eraseIdx v.toNat },[Vbcjaj.whole (g.wire.length - 1)])) with ⟨z,e2⟩ | ⟨z,g,d,it,c0,hst,hd,hi,hw,v0,v19,e2⟩
  ·rw [decide_eq_true z]
   exact iteT (bad2 rfl LS0 k e2 (Same.refl _))
  ·rw [decide_eq_false (fun q=>q z)]
   refine iteF ?_
   have estep:Vbcjaj.step st (.lose v)=_:=e2
   rw [estep] at k
   obtain ⟨dx,hs,vv,pa,ta,ra,ba,ts,rs,SM,rfl,L⟩:=LS
   have hsh:=L.sh
   rw [hst] at hsh
   obtain ⟨sa,rfl,dz,bl,aa,da,wa,ds,cs,rfl,X⟩:=hsh
   obtain ⟨⟨a1,a2,a3,a4⟩,⟨b1,b2,b3⟩,⟨c1,c2⟩,d1,cnd⟩:=nd_show L.nd
   have wlt:v.toNat < g.wire.length:=(List.getElem?_eq_some_iff.mp hw).1
   have clt:v.toNat < cs.length:=by rw [X.wn];exact wlt
   refine ⟨_,rfl,ln,_,dx,_,_,rfl,L.ob,T.cl_Line,T.no_Line_show,rfl,sa,_,dz,_,_,rfl,X.ob,T.cl_Show,T.no_Show_wire,rfl,Or.inl ⟨rfl,_,SqL.of X.wr⟩,_,rfl,wa,_,v,v.toNat,.ref cs[v.toNat],rfl,rfl,X.wr,by omega,by omega,seq_at v0 (by rw [List.length_map];exact clt),by rw [List.getElem?_map,List.getElem?_eq_getElem clt];rfl,?_⟩
   rw [map_erase]
   have ch:Chg (sa::bl::da::wa::cs) H (upd H wa (.lst ((cs.eraseIdx v.toNat).map V.ref))):=Chg.upd (by simp)
   refine ⟨_,rfl,ln,_,dx,_,_,rfl,L.obC ch,T.cl_Line,T.no_Line_show,rfl,sa,_,dz,_,_,rfl,by rw [upd_ne a3];exact X.ob,T.cl_Show,T.no_Show_wire,rfl,wa,_,rfl,.inl (SqL.of upd_same),by show 1≤sizeLine;decide,?_⟩
   have W0:=X.wf
   refine fin_show L k ch (th_sub fun m hm=>.inl (mem_erase hm)) (nd_mk L.nd X.ob X.be X.dn X.wr (cnd.sublist (List.eraseIdx_sublist _ _)) (fun m hm=>.inl (mem_erase hm))) (popped L.nd X ch (g':={ g with wire:=g.wire.eraseIdx v.toNat }) (by rw [upd_ne a3];exact X.ob) upd_same (fun b h1 h2=>upd_ne h2) rfl rfl rfl rfl ⟨W0.al,W0.a6,W0.bl,W0.bf,Nat.le_trans (len_erase _ _) W0.wl,W0.ll,W0.lm,W0.dg⟩ clt) _ ?_
   rw [List.length_map,List.length_eraseIdx,if_pos clt,X.wn]
   rfl
end
section
variable {P:Program} {w:World} {K:PySem.W.Frag} {mg:Str→Option Value} {base:Heap} {t:Ad} {SA:SRel}
theorem ins_mem {α:Type} {l:List α} {j:Nat} {x a:α} (h:a∈l.take j++x::l.drop j):a=x∨a∈l:=by
 rcases List.mem_append.mp h with q | q
 ·exact .inr (List.mem_of_mem_take q)
 ·rcases List.mem_cons.mp q with q | q
  ·exact .inl q
  ·exact .inr (List.mem_of_mem_drop q)
theorem ins_nodup {l:List Addr} {x:Addr} (h:l.Nodup) (hx:x∉l):∀ (j:Nat),(l.take j++x::l.drop j).Nodup:=fun j=>by
 have e:l.take j++l.drop j=l:=List.take_append_drop j l
 have hl:(l.take j++l.drop j).Nodup:=by rw [e];exact h
 obtain ⟨n1,n2,n3⟩:=List.nodup_append.mp hl
 refine List.nodup_append.mpr ⟨n1,List.nodup_cons.mpr ⟨fun z=>hx (List.mem_of_mem_drop z),n2⟩,fun a ha b hb=>?_⟩
 rcases List.mem_cons.mp hb with q | q
 ·rw [q]
  exact ne_in hx (List.mem_of_mem_take ha)
 ·exact n3 a ha b q
theorem ins_len {α:Type} {l:List α} {x:α} (j:Nat):(l.take j++x::l.drop j).length=l.length + 1:=by
 rw [List.length_append,List.length_cons,List.length_take,List.length_drop]
 omega
theorem scDouble:FnScope ["line","place","refusal","wire","cue"] ["line","place"] (defScope s_answer_double):=⟨rfl,rfl,rfl,by decide +kernel,rfl,by decide +kernel,by decide +kernel⟩
theorem ok_double (T:Tx K mg t):FnOk P w K mg base CX0 3 t.f_answer_double t.d_answer_double ["line","place"] (spOne t .double):=by
 refine T.x_answer_double.F.ok scDouble (fun vs H Q E h=>?_) (fun cdv A outer s H vs Q E hr h=>?_)
 ·obtain ⟨M,ln,s,v,rfl,_⟩:=h
  rfl
 ·obtain ⟨M,ln,st,v,rfl,LS,k⟩:=h
  refine ⟨_,pss_cons (ps_set (i:=2) scDouble.nd rfl (Or.inl rfl) (pe_call (ok_plc T) hr rfl T.x_refusal_of_place.m T.x_refusal_of_place.F.kp T.x_refusal_of_place.b .nil pass0 (pa_cons (pv 0) (pa_cons (pv 1) pa_nil))))
   (pss_cons (ps_if (pt_cmpR op_ne (pv 2) pe_int (nomark _)) (pss_one (ps_ret (pe_lst (pa_cons (pv 2) pa_nil)))) pss_nil)
   (pss_cons (ps_set (i:=3) scDouble.nd rfl (Or.inl rfl) (pe_fld (pe_fld (pv 0) rfl) rfl))
   (pss_cons (ps_if (pt_cmpR op_eq (pe_callB call_len_seq rfl T.n_len PySem.boot_len (pa_cons (pv 3) pa_nil)) (pe_const rfl T.k_MOST_CUES) (nomark _)) (pss_one (ps_ret (pe_lst (pa_cons (pe_const rfl T.k_FULL) pa_nil)))) pss_nil)
   (pss_cons (ps_set (i:=4) scDouble.nd rfl (Or.inl rfl) (pe_ix ix_list (pv 3) (pv 1) (fun _ _=>rfl)))
   (pss_cons (ps_expr (pe_bm PySem.F.plainAttrs_list PySem.F.slot_list_insert PySem.F.type_list_insert mt_insert (pv 3) (pa_cons (pe_op op_add (pv 1) pe_int) (pa_cons (pe_make T.mk_Cue (ok_cueInit T) (hr.mono (by decide)) rfl T.mg_Cue T.b_Cue_init .nil pass0 (pa_cons (pe_fld (pv 4) rfl) (pa_cons (pe_fld (pv 4) rfl) (pa_cons (pe_fld (pv 4) rfl) (pa_cons (pe_fld (pv 4) rfl) pa_nil))))) pa_nil))))
   (pss_one (ps_ret (pe_lst (pa_cons (pe_callB call_len_seq rfl T.n_len PySem.boot_len (pa_cons (pv 3) pa_nil)) pa_nil))))))))),?_⟩
  have LS0:=LS
  have W:=LS.wfg
  refine ⟨_,rfl,_,rfl,M,ln,st,v,rfl,LS0,?_⟩
  refine ⟨_,rfl,rfl,_,rfl,?_⟩
  rw [ne0]
  rcases onCue_cases W v (fun g _ _ c=>if 20≤g.wire.length then Vbcjaj.no st (-7) else (Vbcjaj.set st { g with wire:=g.wire.take (v.toNat + 1)++(c::g.wire.drop (v.toNat + 1)) },[Vbcjaj.whole (g.wire.length + 1)])) with ⟨z,e2⟩ | ⟨z,g,d,it,c0,hst,hd,hi,hw,v0,v19,e2⟩
  ·rw [decide_eq_true z]
   exact iteT (bad2 rfl LS0 k e2 (Same.refl _))
  ·rw [decide_eq_false (fun q=>q z)]
   refine iteF ?_
   have estep:Vbcjaj.step st (.double v)=_:=e2
   obtain ⟨dx,hs,vv,pa,ta,ra,ba,ts,rs,SM,rfl,L⟩:=LS
   have hsh:=L.sh
   rw [hst] at hsh
   obtain ⟨sa,rfl,dz,bl,aa,da,wa,ds,cs,rfl,X⟩:=hsh
   obtain ⟨⟨a1,a2,a3,a4⟩,⟨b1,b2,b3⟩,⟨c1,c2⟩,d1,cnd⟩:=nd_show L.nd
   have wlt:v.toNat < g.wire.length:=(List.getElem?_eq_some_iff.mp hw).1
   have clt:v.toNat < cs.length:=by rw [X.wn];exact wlt
   have wl:=X.wf.wl
   refine ⟨_,rfl,ln,_,dx,_,_,rfl,L.ob,T.cl_Line,T.no_Line_show,rfl,sa,_,dz,_,_,rfl,X.ob,T.cl_Show,T.no_Show_wire,rfl,?_⟩
   refine ⟨_,rfl,wa,_,rfl,.inl (SqL.of X.wr),rfl,_,rfl,?_⟩
   rw [List.length_map,X.wn]
   show if decide (V.int (g.wire.length:Int)=V.int ((20:Nat):Int))=true then _ else _
   rw [dec_int_eq]
   refine ifB (fun y=>?_) (fun y=>?_)
   ·have y':=of_decide_eq_true y
    rw [if_pos (by omega)] at estep
    exact bad1 LS0 k estep (Same.refl _)
   ·have y':=of_decide_eq_false y
    rw [if_neg (by omega)] at estep
    rw [estep] at k
    obtain ⟨x0,hx0⟩:∃ x0,cs[v.toNat]?=some x0:=⟨_,List.getElem?_eq_getElem clt⟩
    obtain ⟨dc0,q0⟩:=X.wc _ _ _ hx0 hw
    refine ⟨_,rfl,_,rfl,wa,_,v,.ref x0,rfl,rfl,SqL.of X.wr,at_of (j:=v.toNat) (by omega) (by rw [List.getElem?_map,hx0];rfl),?_⟩
    refine ⟨_,rfl,Or.inl ⟨rfl,_,SqL.of X.wr⟩,_,rfl,_,_,rfl,rfl,_,rfl,x0,_,dc0,_,_,rfl,q0,T.cl_Cue,T.no_Cue_serial,rfl,_,rfl,x0,_,dc0,_,_,rfl,q0,T.cl_Cue,T.no_Cue_number,rfl,_,rfl,x0,_,dc0,_,_,rfl,q0,T.cl_Cue,T.no_Cue_value,rfl,_,rfl,x0,_,dc0,_,_,rfl,q0,T.cl_Cue,T.no_Cue_age,rfl,fun x dx' nx nd ne=>?_⟩
    refine ⟨x,dx',c0,rfl,upd_same,rfl,?_⟩
    obtain ⟨s2,hx2⟩:=cue_made (t:=t) (x:=c0) nx nd ne
    generalize upd (upd (upd H dx' (.own x)) x (.ins t.c_Cue dx' [])) x (.ins t.c_Cue dx' (cueF c0))=H2 at s2 hx2 ⊢
    refine ⟨wa,_,v + 1,v.toNat + 1,_,rfl,rfl,by omega,s2 _ _ X.wr,by rw [List.length_map];omega,by rw [List.length_map,X.wn];omega,?_⟩
    have nxw:x≠wa:=fun z=>by rw [z,X.wr] at nx;cases nx
    have xcs:x∉cs:=fun z=>by
     obtain ⟨o,q⟩:=LS0.there (SAc_stable t) x (by simp [z])
     rw [nx] at q;cases q
    have em:(cs.map V.ref).take (v.toNat + 1)++V.ref x::(cs.map V.ref).drop (v.toNat + 1)=(cs.take (v.toNat + 1)++x::cs.drop (v.toNat + 1)).map V.ref:=by
     rw [List.map_append,List.map_cons,List.map_take,List.map_drop]
    rw [em]
    refine ⟨_,rfl,wa,_,rfl,.inl (SqL.of upd_same),by show 1≤sizeLine;decide,?_⟩
    have ch:Chg (sa::bl::da::wa::cs) H (upd H2 wa (.lst ((cs.take (v.toNat + 1)++x::cs.drop (v.toNat + 1)).map V.ref))):=(Chg.same s2).trans (Chg.upd (by simp))
    have fr:∀ m∈cs.take (v.toNat + 1)++x::cs.drop (v.toNat + 1),m∈cs∨H m=none:=fun m hm=>by
     rcases ins_mem hm with q | q
     ·exact .inr (by rw [q];exact nx)
     ·exact .inl q
    obtain ⟨⟨ac',ma'⟩,de'⟩:=X.kept ch (th_sub fr)
    have W0:=X.wf
    refine fin_show L k ch (th_sub fr) (nd_mk L.nd X.ob X.be X.dn X.wr (ins_nodup cnd xcs _) fr) ⟨dz,bl,aa,da,wa,ds,cs.take (v.toNat + 1)++x::cs.drop (v.toNat + 1),rfl,?_⟩ _ ?_
    ·refine ⟨by rw [upd_ne a3];exact s2 _ _ X.ob,by rw [upd_ne b2];exact s2 _ _ X.be,ac',ma',by rw [upd_ne c1];exact s2 _ _ X.dn,X.dl,de',upd_same,by show _=(g.wire.take (v.toNat + 1)++c0::g.wire.drop (v.toNat + 1)).length;rw [ins_len,ins_len,X.wn],fun i c y h1 h2=>?_,⟨W0.al,W0.a6,W0.bl,W0.bf,by show (g.wire.take (v.toNat + 1)++c0::g.wire.drop (v.toNat + 1)).length≤20;rw [ins_len];omega,W0.ll,W0.lm,W0.dg⟩⟩
     refine ins_get (R:=fun c y=>∃ dc,upd H2 wa (.lst ((cs.take (v.toNat + 1)++x::cs.drop (v.toNat + 1)).map V.ref)) c=some (.ins t.c_Cue dc (cueF y))) (x:=x) (y:=c0) ⟨dx',by rw [upd_ne nxw];exact hx2⟩ (v.toNat + 1) X.wn (fun i c y h1 h2=>?_) i c y h1 h2
     obtain ⟨dc,q⟩:=X.wc i c y h1 h2
     exact ⟨dc,by rw [upd_ne (ne_in d1 (List.mem_of_getElem? h1))];exact s2 _ _ q⟩
    ·rw [List.length_map,ins_len,X.wn]
     rfl
theorem scDeliver:FnScope ["line","place","refusal","show","cue"] ["line","place"] (defScope s_answer_deliver):=⟨rfl,rfl,rfl,by decide +kernel,rfl,by decide +kernel,by decide +kernel⟩
theorem ok_deliver (T:Tx K mg t):FnOk P w K mg base CX0 6 t.f_answer_deliver t.d_answer_deliver ["line","place"] (spOne t .deliver):=by
 refine T.x_answer_deliver.F.ok scDeliver (fun vs H Q E h=>?_) (fun cdv A outer s H vs Q E hr h=>?_)
 ·obtain ⟨M,ln,s,v,rfl,_⟩:=h
  rfl
 ·obtain ⟨M,ln,st,v,rfl,LS,k⟩:=h
  refine ⟨_,pss_cons (ps_set (i:=2) scDeliver.nd rfl (Or.inl rfl) (pe_call (ok_plc T) (hr.mono (by decide)) rfl T.x_refusal_of_place.m T.x_refusal_of_place.F.kp T.x_refusal_of_place.b .nil pass0 (pa_cons (pv 0) (pa_cons (pv 1) pa_nil))))
   (pss_cons (ps_if (pt_cmpR op_ne (pv 2) pe_int (nomark _)) (pss_one (ps_ret (pe_lst (pa_cons (pv 2) pa_nil)))) pss_nil)
   (pss_cons (ps_set (i:=3) scDeliver.nd rfl (Or.inl rfl) (pe_fld (pv 0) rfl))
   (pss_cons (ps_set (i:=4) scDeliver.nd rfl (Or.inl rfl) (pe_bm PySem.F.plainAttrs_list PySem.F.slot_list_pop PySem.F.type_list_pop mt_popAt (pe_fld (pv 3) rfl) (pa_cons (pv 1) pa_nil)))
   (pss_cons (ps_if (PW.pt (pw_or (pt_cmpR op_ne (pe_fld (pv 4) rfl) (pe_fld (pv 3) rfl) (nomark _)) (pw_or1 (pt_not (pt_val (pe_call (ok_waits T) hr rfl T.x_waits_for_cue.m T.x_waits_for_cue.F.kp T.x_waits_for_cue.b .nil pass0 (pa_cons (pe_fld (pv 0) rfl) (pa_cons (pv 3) pa_nil)))))))) (pss_one (ps_ret (pe_lst (pa_cons pe_int pa_nil)))) pss_nil)
   (pss_cons (ps_fld (pv 3) (pe_fld (pv 4) rfl) rfl)
   (pss_one (ps_ret (pe_lst (pa_cons pe_int (pa_cons (pe_fld (pv 4) rfl) pa_nil)))))))))),?_⟩
  have LS0:=LS
  have W:=LS.wfg
  refine ⟨_,rfl,_,rfl,M,ln,st,v,rfl,LS0,?_⟩
  refine ⟨_,rfl,rfl,_,rfl,?_⟩
  rw [ne0]
  rcases onCue_cases W v (fun g d t c=>if Vbcjaj.taken t g.serial d c=true then (Vbcjaj.set st { g with wire:=g.wire.eraseIdx v.toNat,doing:=some { d with value:=some c.value } },[1,Vbcjaj.whole c.value]) else (Vbcjaj.set st { g with wire:=g.wire.eraseIdx v.toNat },[0])) with ⟨z,e2⟩ | ⟨z,g,d,it,c0,hst,hd,hi,hw,v0,v19,e2⟩
  ·rw [decide_eq_true z]
   exact iteT (bad2 rfl LS0 k e2 (Same.refl _))
  ·rw [decide_eq_false (fun q=>q z)]
   refine iteF ?_
   have estep:Vbcjaj.step st (.deliver v)=_:=e2
   obtain ⟨dx,hs,vv,pa,ta,ra,ba,ts,rs,SM,rfl,L⟩:=LS
   have hsh:=L.sh
   rw [hst] at hsh
   obtain ⟨sa,rfl,dz,bl,aa,da,wa,ds,cs,rfl,X⟩:=hsh
   obtain ⟨⟨a1,a2,a3,a4⟩,⟨b1,b2,b3⟩,⟨c1,c2⟩,d1,cnd⟩:=nd_show L.nd
   have wlt:v.toNat < g.wire.length:=(List.getElem?_eq_some_iff.mp hw).1
   have clt:v.toNat < cs.length:=by rw [X.wn];exact wlt
   obtain ⟨x0,hx0⟩:∃ x0,cs[v.toNat]?=some x0:=⟨_,List.getElem?_eq_getElem clt⟩
   obtain ⟨dc0,q0⟩:=X.wc _ _ _ hx0 hw
   have x0w:x0≠wa:=ne_in d1 (List.mem_of_getElem? hx0)
   have x0s:x0≠sa:=ne_in a4 (List.mem_of_getElem? hx0)
   refine ⟨_,rfl,ln,_,dx,_,_,rfl,L.ob,T.cl_Line,T.no_Line_show,rfl,?_⟩
   refine ⟨_,rfl,sa,_,dz,_,_,rfl,X.ob,T.cl_Show,T.no_Show_wire,rfl,Or.inl ⟨rfl,_,SqL.of X.wr⟩,_,rfl,wa,_,v,v.toNat,.ref x0,rfl,rfl,X.wr,by omega,by omega,seq_at v0 (by rw [List.length_map];exact clt),by rw [List.getElem?_map,hx0];rfl,?_⟩
   rw [map_erase]
   have ch1:Chg (sa::bl::da::wa::cs) H (upd H wa (.lst ((cs.eraseIdx v.toNat).map V.ref))):=Chg.upd (by simp)
   have ob1:upd H wa (.lst ((cs.eraseIdx v.toNat).map V.ref)) sa=_:=(upd_ne a3).trans X.ob
   have q1:upd H wa (.lst ((cs.eraseIdx v.toNat).map V.ref)) x0=_:=(upd_ne x0w).trans q0
   have wr1:upd H wa (.lst ((cs.eraseIdx v.toNat).map V.ref)) wa=_:=upd_same
   have oth1:∀ b,b≠wa→upd H wa (.lst ((cs.eraseIdx v.toNat).map V.ref)) b=H b:=fun b hb=>upd_ne hb
   generalize upd H wa (.lst ((cs.eraseIdx v.toNat).map V.ref))=H1 at ch1 ob1 q1 wr1 oth1 ⊢
   have W0:=X.wf
   have on:ShowOn t (ln::hs::ta::ra::sa::bl::da::wa::cs) H1 hs sa st.house g:=⟨⟨pa,ta,ra,ba,ts,rs,L.houseC ch1⟩,⟨dz,bl,aa,da,wa,ob1⟩,W0⟩
   have fr:∀ m∈cs.eraseIdx v.toNat,m∈cs∨H m=none:=fun m hm=>.inl (mem_erase hm)
   have ndn:=nd_mk L.nd X.ob X.be X.dn X.wr (cnd.sublist (List.eraseIdx_sublist cs v.toNat)) fr
   have pass_:Vbcjaj.taken it g.serial d c0=false→tRet (tLst (tCons (tC (.int 0)) tNil)) { nx:=fun _ H'=>Q .non H',rt:=Q } [some (.ref ln),some (.int v),some (.int (plcI st v)),some (.ref sa),some (.ref x0)] H1:=fun e=>by
    rw [e,if_neg (by simp)] at estep
    rw [estep] at k
    refine ⟨by show 1≤sizeLine;decide,?_⟩
    exact fin_show L k ch1 (th_sub fr) ndn (popped L.nd X ch1 (g':={ g with wire:=g.wire.eraseIdx v.toNat }) ob1 wr1 (fun b h1 h2=>oth1 b h2) rfl rfl rfl rfl ⟨W0.al,W0.a6,W0.bl,W0.bf,Nat.le_trans (len_erase _ _) W0.wl,W0.ll,W0.lm,W0.dg⟩ clt) _ rfl
   have etk:Vbcjaj.taken it g.serial d c0=(decide (0 < it.wait) && (c0.serial == g.serial && (d.value.isNone && !d.rescued))):=rfl
   refine ⟨_,rfl,x0,_,dc0,_,_,rfl,q1,T.cl_Cue,T.no_Cue_serial,rfl,_,rfl,sa,_,dz,_,_,rfl,ob1,T.cl_Show,T.no_Show_serial,rfl,rfl,_,rfl,?_⟩
   rw [dec_int_eq]
   by_cases hse:c0.serial=g.serial
   ·rw [decide_eq_true hse]
    refine iteF ?_
    have hse2:(c0.serial == g.serial)=true:=by rw [hse];exact beq_self_eq_true _
    rw [hse2,Bool.true_and] at etk
    refine ⟨_,rfl,ln,_,dx,_,_,rfl,L.obC ch1,T.cl_Line,T.no_Line_house,rfl,_,rfl,_,hs,sa,st.house,g,rfl,on,_,rfl,?_⟩
    have ew:waitsB st.house g=(decide (0 < it.wait) && (d.value.isNone && !d.rescued)):=by unfold waitsB;rw [hd];dsimp only;rw [hi]
    rw [ew]
    cases hwb:(decide (0 < it.wait) && (d.value.isNone && !d.rescued)) with
    | false=>exact iteT (pass_ (etk.trans hwb))
    | true =>
     refine iteF ?_
     rw [etk.trans hwb,if_pos rfl] at estep
     rw [estep] at k
     refine ⟨_,rfl,x0,_,dc0,_,_,rfl,q1,T.cl_Cue,T.no_Cue_value,rfl,_,rfl,sa,_,dz,_,rfl,ob1,T.cl_Show,T.no_Show_taken,by show 10 < 1000;decide,?_⟩
     refine ⟨_,rfl,x0,_,dc0,_,_,rfl,by rw [upd_ne x0s];exact q1,T.cl_Cue,T.no_Cue_value,rfl,by show 2≤sizeLine;decide,?_⟩
     have ch:Chg (sa::bl::da::wa::cs) H (upd H1 sa (.ins t.c_Show dz (putF "taken" (.int (c0.value:Int)) (showG bl aa da wa g)))):=ch1.trans (Chg.upd (by simp))
     refine fin_show L k ch (th_sub fr) ndn (popped L.nd X ch (g':={ g with wire:=g.wire.eraseIdx v.toNat,doing:=some { d with value:=some c0.value } }) ?_ (by rw [upd_ne a3.symm];exact wr1) (fun b h1 h2=>by rw [upd_ne h1];exact oth1 b h2) rfl rfl rfl rfl ⟨W0.al,W0.a6,W0.bl,W0.bf,Nat.le_trans (len_erase _ _) W0.wl,W0.ll,W0.lm,fun d' hd'=>?_⟩ clt) _ rfl
     ·rw [upd_same]
      obtain ⟨ac,be,se,dg,wi,lo,mi⟩:=g
      have hd2:dg=some d:=hd
      subst hd2
      rfl
     ·cases hd'
      obtain ⟨it',h1,h2,h3⟩:=W0.dg d hd
      refine ⟨it',h1,h2,?_⟩
      simp only [Bool.and_eq_true,Bool.not_eq_true'] at hwb
      show d.rescued=(decide (0 < it'.wait) && ((some c0.value).isNone && decide (it'.wait≤d.ticks)))
      rw [hwb.2.2]
      simp
   ·rw [decide_eq_false hse]
    refine iteT ?_
    refine iteT ?_
    have hse2:(c0.serial == g.serial)=false:=by simpa using hse
    exact pass_ (by rw [etk,hse2,Bool.false_and,Bool.and_false])
end
theorem flt_get {α β:Type} {R:α→β→Prop} {p:α→Bool} {q:β→Bool}:∀ {as:List α} {bs:List β},as.length=bs.length→(∀ (i:Nat) a b,as[i]?=some a→bs[i]?=some b→R a b∧p a=q b)→(as.filter p).length=(bs.filter q).length∧∀ (i:Nat) a b,(as.filter p)[i]?=some a→(bs.filter q)[i]?=some b→R a b
 | [],[],_,_=>⟨rfl,fun i a b h1=>by simp at h1⟩
 | a::as,b::bs,hl,h=>by
  obtain ⟨r,e⟩:=h 0 a b rfl rfl
  obtain ⟨l,f⟩:=flt_get (R:=R) (p:=p) (q:=q) (as:=as) (bs:=bs) (by simpa using hl) (fun i a b h1 h2=>h (i + 1) a b h1 h2)
  rw [List.filter_cons,List.filter_cons,← e]
  cases p a with
  | false=>exact ⟨l,f⟩
  | true =>
   refine ⟨by simpa using l,fun i x y h1 h2=>?_⟩
   cases i with
   | zero=>cases h1;cases h2;exact r
   | succ i=>exact f i x y h1 h2
theorem nodup_inj {l:List Addr} (h:l.Nodup) {i j:Nat} {a:Addr} (h1:l[i]?=some a) (h2:l[j]?=some a):i=j :=
 (List.getElem?_inj (List.getElem?_eq_some_iff.mp h1).1 h).mp (h1.trans h2.symm)
def stays (H:Hp) (dl:Nat):V→Bool
 | .ref c=>match H c with
  | some (.ins _ _ fs)=>match fs.lookup ("age":Str) with
   | some (.int a)=>decide (a≤(dl:Int))
   | _=>false
  | _=>false
 | _=>false
section
variable {P:Program} {w:World} {K:PySem.W.Frag} {mg:Str→Option Value} {base:Heap} {t:Ad} {SA:SRel}
abbrev nmTick:List Str:=["line","ticks","refusal","show","cue"]
theorem scTick:FnScope nmTick ["line","ticks"] (defScope s_answer_tick):=⟨rfl,rfl,rfl,by decide +kernel,rfl,by decide +kernel,by decide +kernel⟩
theorem ok_tick (T:Tx K mg t):FnOk P w K mg base CX0 5 t.f_answer_tick t.d_answer_tick ["line","ticks"] (spOne t .tick):=by
 refine T.x_answer_tick.F.ok scTick (fun vs H Q E h=>?_) (fun cdv A outer s H vs Q E hr h=>?_)
 ·obtain ⟨M,ln,s,v,rfl,_⟩:=h
  rfl
 ·obtain ⟨M,ln,st,v,rfl,LS,k⟩:=h
  refine ⟨_,pss_cons (ps_if (pt_not (pt_val (pe_call (ok_within T) (hr.mono (by decide)) rfl T.x_within.m T.x_within.F.kp T.x_within.b .nil pass0 (pa_cons (pv 1) (pa_cons pe_int (pa_cons (pe_const rfl T.k_MOST_TICKS) pa_nil)))))) (pss_one (ps_ret (pe_lst (pa_cons (pe_const rfl T.k_OUT_OF_RANGE) pa_nil)))) pss_nil)
   (pss_cons (ps_set (i:=2) scTick.nd rfl (Or.inl rfl) (pe_call (ok_refD T) (hr.mono (by decide)) rfl T.x_refusal_unless_doing.m T.x_refusal_unless_doing.F.kp T.x_refusal_unless_doing.b .nil pass0 (pa_cons (pv 0) pa_nil)))
   (pss_cons (ps_if (pt_cmpR op_ne (pv 2) pe_int (nomark _)) (pss_one (ps_ret (pe_lst (pa_cons (pv 2) pa_nil)))) pss_nil)
   (pss_cons (ps_set (i:=3) scTick.nd rfl (Or.inl rfl) (pe_fld (pv 0) rfl))
   (pss_cons (ps_fldaug (pv 3) (pv 1) in_add)
   (pss_cons (ps_for PassesOwn.never rfl (pi_list (pe_fld (pv 3) rfl)) (pg_name (i:=4) scTick.nd rfl (Or.inl rfl)) (pss_one (ps_fldaug (pv 4) (pv 1) in_add)))
   (pss_cons (ps_fld (pv 3) (pe_lc (own:=[("cue",4)]) (tt:=tTest (tOp (rI0 fun i j=>.bl (decide (i≤j))) (tFld K (tVar 4) "age") (tFld K (tFld K (tVar 0) "house") "delay"))) rfl scTick.nd (pi_list (pe_fld (pv 3) rfl)) (blkOk_by (show blkC nmTick (defScope s_answer_tick) _ _=true by decide +kernel)) (fun _ _ _ _ _=>pg_name (i:=4) scTick.nd rfl (Or.inl rfl)) (fun _ _ _ _ _=>by (refine pts_one ?_;refine pt_cmpR op_le ?_ ?_ (nomark _);(exact pe_fld (pv 4) rfl);(exact pe_fld (pe_fld (pv 0) rfl) rfl)))
    (fun _ _ _ _ _=>pv 4)) rfl)
   (pss_one (ps_ret (pe_lst (pa_cons (pe_ifExp (pt_val (pe_call (ok_resc T) hr rfl T.x_is_rescued.m T.x_is_rescued.F.kp T.x_is_rescued.b .nil pass0 (pa_cons (pe_fld (pv 0) rfl) (pa_cons (pv 3) pa_nil)))) pe_int pe_int) (pa_cons (pe_callB call_len_seq rfl T.n_len PySem.boot_len (pa_cons (pe_fld (pv 3) rfl) pa_nil)) pa_nil))))))))))),?_⟩
  have LS0:=LS
  have W:=LS.wfg
  refine ⟨_,rfl,v,1,30,rfl,_,rfl,?_⟩
  have estep:Vbcjaj.step st (.tick v)=if inR v 1 30=false then Vbcjaj.no st (-1) else Vbcjaj.onItem st fun g d t=>(Vbcjaj.set st { g with doing:=some (Vbcjaj.passed t d v.toNat),wire:=Vbcjaj.aged st.house.delay v.toNat g.wire },[Vbcjaj.bit (Vbcjaj.passed t d v.toNat).rescued,Vbcjaj.whole (Vbcjaj.aged st.house.delay v.toNat g.wire).length]):=rfl
  cases c1:inR v 1 30 with
  | false=>exact iteT (bad1 LS0 k (by rw [estep,c1,if_pos rfl];rfl) (Same.refl _))
  | true =>
   rw [c1,if_neg (by simp)] at estep
   refine iteF ?_
   have v30:1≤v∧v≤30:=by unfold inR at c1;simpa using c1
   obtain ⟨n,rfl⟩:∃ n:Nat,v=(n:Int):=⟨v.toNat,by omega⟩
   refine ⟨_,rfl,_,ln,st,rfl,LS0,?_⟩
   refine ⟨_,rfl,rfl,_,rfl,?_⟩
   rw [ne0]
   rcases onItem_cases W (fun g d t=>(Vbcjaj.set st { g with doing:=some (Vbcjaj.passed t d n),wire:=Vbcjaj.aged st.house.delay n g.wire },[Vbcjaj.bit (Vbcjaj.passed t d n).rescued,Vbcjaj.whole (Vbcjaj.aged st.house.delay n g.wire).length])) with ⟨z,e2⟩ | ⟨z,g,d,it,hst,hd,hi,e2⟩
   ·rw [decide_eq_true z]
    exact iteT (bad2 rfl LS0 k (estep.trans e2) (Same.refl _))
   ·rw [decide_eq_false (fun q=>q z)]
    refine iteF ?_
    have estep2:=estep.trans e2
    rw [estep2] at k
    obtain ⟨dx,hs,vv,pa,ta,ra,ba,ts,rs,SM,rfl,L⟩:=LS
    have hsh:=L.sh
    rw [hst] at hsh
    obtain ⟨sa,rfl,dz,bl,aa,da,wa,ds,cs,rfl,X⟩:=hsh
    obtain ⟨⟨a1,a2,a3,a4⟩,⟨b1,b2,b3⟩,⟨c1,c2⟩,d1,cnd⟩:=nd_show L.nd
    obtain ⟨ac,be,se,dg,wi,lo,mi⟩:=g
    have hd2:dg=some d:=hd
    subst hd2
    have wn:cs.length=wi.length:=X.wn
    have wl:wi.length≤20:=X.wf.wl
    refine ⟨_,rfl,ln,_,dx,_,_,rfl,L.ob,T.cl_Line,T.no_Line_show,rfl,?_⟩
    refine ⟨_,rfl,sa,_,dz,_,_,rfl,X.ob,T.cl_Show,T.no_Show_ticks,rfl,_,rfl,_,_,rfl,rfl,dz,_,X.ob,by show 10 < 1000;decide,?_⟩
    have ch1:Chg (sa::bl::da::wa::cs) H (upd H sa (.ins t.c_Show dz (putF "ticks" (.int (kI (some d) + (n:Int))) (showG bl aa da wa ⟨ac,be,se,some d,wi,lo,mi⟩)))):=Chg.upd (by simp)
    have ob1:upd H sa (.ins t.c_Show dz (putF "ticks" (.int (kI (some d) + (n:Int))) (showG bl aa da wa ⟨ac,be,se,some d,wi,lo,mi⟩))) sa=some (.ins t.c_Show dz (showG bl aa da wa ⟨ac,be,se,some (Vbcjaj.passed it d n),wi,lo,mi⟩)):=by rw [upd_same];rfl
    have oth1:∀ b,b≠sa→upd H sa (.ins t.c_Show dz (putF "ticks" (.int (kI (some d) + (n:Int))) (showG bl aa da wa ⟨ac,be,se,some d,wi,lo,mi⟩))) b=H b:=fun b hb=>upd_ne hb
    generalize upd H sa (.ins t.c_Show dz (putF "ticks" (.int (kI (some d) + (n:Int))) (showG bl aa da wa ⟨ac,be,se,some d,wi,lo,mi⟩)))=H1 at ch1 ob1 oth1 ⊢
    have wr1:H1 wa=some (.lst (cs.map V.ref)):=by rw [oth1 _ a3.symm];exact X.wr
    refine ⟨_,rfl,sa,_,dz,_,_,rfl,ob1,T.cl_Show,T.no_Show_wire,rfl,wa,rfl,⟨_,SqL.of wr1⟩,?_⟩
    refine for_list (K:=K) (a:=wa) (xs:=cs.map V.ref) (fun i σ H'=>∃ v4:Option V,σ=[some (.ref ln),some (.int (n:Int)),some (.int (refI st)),some (.ref sa),v4]∧Chg (sa::bl::da::wa::cs) H H'∧(∀ b,b∉cs→H' b=H1 b)∧(∀ b,b≠sa→b∉cs→H' b=H b) ∧
     ∀ (j:Nat) (c:Addr) (x:Vbcjaj.Cue),cs[j]?=some c→wi[j]?=some x→∃ dc,H' c=some (.ins t.c_Cue dc (cueF (if j < i then { x with age:=x.age + n } else x))))
     ⟨none,rfl,ch1,fun _ _=>rfl,fun b hb _=>oth1 b hb,fun j c x h1 h2=>?_⟩ (fun i σ H' _ ⟨_,_,_,f,_⟩=>SqL.of (by rw [f _ d1];exact wr1)) ?_ ?_
    ·obtain ⟨dc,q⟩:=X.wc j c x h1 h2
     exact ⟨dc,by rw [if_neg (Nat.not_lt_zero _),oth1 _ (ne_in a4 (List.mem_of_getElem? h1))];exact q⟩
    ·rintro i y σ H' hy ⟨v4,rfl,ch,f1,f2,f3⟩
     obtain ⟨c,hc,rfl⟩:=get_map hy
     have hi':i < wi.length:=by rw [← wn];exact (List.getElem?_eq_some_iff.mp hc).1
     obtain ⟨x,hx⟩:∃ x,wi[i]?=some x:=⟨_,List.getElem?_eq_getElem hi'⟩
     obtain ⟨dc,q⟩:=f3 i c x hc hx
     rw [if_neg (Nat.lt_irrefl _)] at q
     have ccs:c∈cs:=List.mem_of_getElem? hc
     refine ⟨_,rfl,c,_,dc,_,_,rfl,q,T.cl_Cue,T.no_Cue_age,rfl,_,rfl,_,_,rfl,rfl,dc,_,q,by show 4 < 1000;decide,?_⟩
     refine ⟨_,rfl,ch.trans (Chg.upd (by simp [ccs])),fun b hb=>?_,fun b h1 h2=>?_,fun j c' x' h1 h2=>?_⟩
     ·rw [upd_ne (fun z=>hb (by rw [z];exact ccs))]
      exact f1 b hb
     ·rw [upd_ne (fun z=>h2 (by rw [z];exact ccs))]
      exact f2 b h1 h2
     ·by_cases hj:j=i
      ·subst hj
       rw [hc] at h1
       rw [hx] at h2
       cases h1
       cases h2
       exact ⟨dc,by rw [upd_same,if_pos (Nat.lt_succ_self _)];rfl⟩
      ·obtain ⟨dc',q'⟩:=f3 j c' x' h1 h2
       have cne:c'≠c:=fun z=>hj (nodup_inj cnd h1 (by rw [z];exact hc))
       refine ⟨dc',?_⟩
       rw [upd_ne cne,q']
       by_cases hlt:j < i
       ·rw [if_pos hlt,if_pos (by omega)]
       ·rw [if_neg hlt,if_neg (by omega)]
    ·rintro σ H4 ⟨v4,rfl,ch4,f1,f2,f3⟩
     have cue4:∀ (j:Nat) (c:Addr) (x:Vbcjaj.Cue),cs[j]?=some c→wi[j]?=some x→∃ dc,H4 c=some (.ins t.c_Cue dc (cueF { x with age:=x.age + n })):=fun j c x h1 h2=>by
      obtain ⟨dc,q⟩:=f3 j c x h1 h2
      rw [if_pos (by rw [List.length_map];exact (List.getElem?_eq_some_iff.mp h1).1)] at q
      exact ⟨dc,q⟩
     have ob4:H4 sa=_:=(f1 _ a4).trans ob1
     have wr4:H4 wa=_:=(f1 _ d1).trans wr1
     have ln4:=L.obC ch4
     have ho4:=L.houseC ch4
     refine ⟨_,rfl,sa,_,dz,_,_,rfl,ob4,T.cl_Show,T.no_Show_wire,rfl,wa,rfl,⟨_,SqL.of wr4⟩,fun D nD=>?_⟩
     refine lcl_filter (xs:=cs.map V.ref) (stays H4 st.house.delay) (by rw [List.length_map,wn];exact small_le (by omega)) nD (SqL.of wr4) (fun i y H' hy sm R Y hT hF=>?_) (fun H5 s5 hD5=>?_)
     ·obtain ⟨c,hc,rfl⟩:=get_map hy
      have hi':i < wi.length:=by rw [← wn];exact (List.getElem?_eq_some_iff.mp hc).1
      obtain ⟨x,hx⟩:∃ x,wi[i]?=some x:=⟨_,List.getElem?_eq_getElem hi'⟩
      obtain ⟨dc,q⟩:=cue4 i c x hc hx
      obtain ⟨⟨dh,h0⟩,_⟩:=ho4
      refine ⟨rfl,_,rfl,c,_,dc,_,_,rfl,sm _ _ q,T.cl_Cue,T.no_Cue_age,rfl,_,rfl,ln,_,dx,_,_,rfl,sm _ _ ln4,T.cl_Line,T.no_Line_house,rfl,hs,_,dh,_,_,rfl,sm _ _ h0,T.cl_House,T.no_House_delay,rfl,_,_,rfl,rfl,_,rfl,?_⟩
      have es:stays H4 st.house.delay (.ref c)=decide (((x.age + n:Nat):Int)≤(st.house.delay:Int)):=by
       show (match H4 c with
        | some (.ins _ _ fs)=>match fs.lookup ("age":Str) with
         | some (.int a)=>decide (a≤(st.house.delay:Int))
         | _=>false
        | _=>false)=_
       rw [q]
       rfl
      rw [es] at hT hF
      refine ifB (fun z=>?_) (fun z=>?_)
      ·exact ⟨_,rfl,hT z⟩
      ·exact hF z
     ·have ef:(cs.map V.ref).filter (stays H4 st.house.delay)=(cs.filter fun c=>stays H4 st.house.delay (.ref c)).map V.ref:=by rw [List.filter_map];rfl
      rw [ef] at hD5
      have saD:sa≠D:=ne_of_none ob4 nD
      refine ⟨_,rfl,sa,_,dz,_,rfl,s5 _ _ ob4,T.cl_Show,T.no_Show_wire,by show 10 < 1000;decide,?_⟩
      have ob6:upd H5 sa (.ins t.c_Show dz (putF "wire" (.ref D) (showG bl aa da wa ⟨ac,be,se,some (Vbcjaj.passed it d n),wi,lo,mi⟩))) sa=some (.ins t.c_Show dz (showG bl aa da D ⟨ac,be,se,some (Vbcjaj.passed it d n),Vbcjaj.aged st.house.delay n wi,lo,mi⟩)):=by rw [upd_same];rfl
      have oth6:∀ b,b≠sa→upd H5 sa (.ins t.c_Show dz (putF "wire" (.ref D) (showG bl aa da wa ⟨ac,be,se,some (Vbcjaj.passed it d n),wi,lo,mi⟩))) b=H5 b:=fun b hb=>upd_ne hb
      have ch6:Chg (sa::bl::da::wa::cs) H (upd H5 sa (.ins t.c_Show dz (putF "wire" (.ref D) (showG bl aa da wa ⟨ac,be,se,some (Vbcjaj.passed it d n),wi,lo,mi⟩)))):=(ch4.trans (Chg.same s5)).trans (Chg.upd (by simp))
      generalize upd H5 sa (.ins t.c_Show dz (putF "wire" (.ref D) (showG bl aa da wa ⟨ac,be,se,some (Vbcjaj.passed it d n),wi,lo,mi⟩)))=H6 at ob6 oth6 ch6 ⊢
      have W0:=X.wf
      have nDH:H D=none:=ch4.free nD
      obtain ⟨fl,fg⟩:=flt_get (R:=fun c y=>∃ dc,H4 c=some (.ins t.c_Cue dc (cueF y))) (p:=fun c=>stays H4 st.house.delay (.ref c)) (q:=fun c:Vbcjaj.Cue=>decide (c.age≤st.house.delay)) (as:=cs) (bs:=wi.map fun c=>{ c with age:=c.age + n }) (by rw [List.length_map];exact wn) (fun i c y h1 h2=>by
       obtain ⟨x,hx,rfl⟩:=get_map h2
       obtain ⟨dc,q⟩:=cue4 i c x h1 hx
       refine ⟨⟨dc,q⟩,?_⟩
       show (match H4 c with
        | some (.ins _ _ fs)=>match fs.lookup ("age":Str) with
         | some (.int a)=>decide (a≤(st.house.delay:Int))
         | _=>false
        | _=>false)=_
       rw [q]
       show decide (((x.age + n:Nat):Int)≤(st.house.delay:Int))=decide (x.age + n≤st.house.delay)
       by_cases z:x.age + n≤st.house.delay
       ·rw [decide_eq_true z,decide_eq_true (by omega)]
       ·rw [decide_eq_false z,decide_eq_false (by omega)])
      have eag:Vbcjaj.aged st.house.delay n wi=(wi.map fun c=>{ c with age:=c.age + n }).filter fun c=>decide (c.age≤st.house.delay):=rfl
      have wle:(Vbcjaj.aged st.house.delay n wi).length≤20:=by rw [eag];exact Nat.le_trans (List.length_filter_le _ _) (by rw [List.length_map];exact wl)
      have W6:WfG st.house ⟨ac,be,se,some (Vbcjaj.passed it d n),Vbcjaj.aged st.house.delay n wi,lo,mi⟩:=⟨W0.al,W0.a6,W0.bl,W0.bf,wle,W0.ll,W0.lm,fun d' hd'=>by
       cases hd'
       obtain ⟨it',h1,h2,h3⟩:=W0.dg d rfl
       have:it'=it:=Option.some.inj (h1.symm.trans hi)
       subst this
       refine ⟨it',h1,h2,?_⟩
       show (d.rescued || (decide (0 < it'.wait) && (d.value.isNone && decide (it'.wait≤d.ticks + n))))=(decide (0 < it'.wait) && (d.value.isNone && decide (it'.wait≤d.ticks + n)))
       rw [h3]
       by_cases z:it'.wait≤d.ticks
       ·rw [decide_eq_true z,decide_eq_true (show it'.wait≤d.ticks + n by omega),Bool.or_self]
       ·rw [decide_eq_false z,Bool.and_false,Bool.and_false,Bool.false_or]⟩
      have on:ShowOn t (ln::hs::ta::ra::sa::bl::da::wa::cs) H6 hs sa st.house ⟨ac,be,se,some (Vbcjaj.passed it d n),Vbcjaj.aged st.house.delay n wi,lo,mi⟩:=⟨⟨pa,ta,ra,ba,ts,rs,L.houseC ch6⟩,⟨dz,bl,aa,da,D,ob6⟩,W6⟩
      have wr6:H6 D=some (.lst ((cs.filter fun c=>stays H4 st.house.delay (.ref c)).map V.ref)):=by rw [oth6 _ saD.symm];exact hD5
      refine ⟨_,rfl,ln,_,dx,_,_,rfl,L.obC ch6,T.cl_Line,T.no_Line_house,rfl,_,rfl,_,hs,sa,st.house,_,rfl,on,_,rfl,?_⟩
      have msub:∀ m∈cs.filter (fun c=>stays H4 st.house.delay (.ref c)),m∈cs:=fun m hm=>(List.mem_filter.mp hm).1
      have th:∀ m∈sa::bl::da::D::(cs.filter fun c=>stays H4 st.house.delay (.ref c)),m∈sa::bl::da::wa::cs∨H m=none:=fun m hm=>by
       rcases List.mem_cons.mp hm with q | hm
       ·exact .inl (by simp [q])
       rcases List.mem_cons.mp hm with q | hm
       ·exact .inl (by simp [q])
       rcases List.mem_cons.mp hm with q | hm
       ·exact .inl (by simp [q])
       rcases List.mem_cons.mp hm with q | hm
       ·exact .inr (by rw [q];exact nDH)
       ·exact .inl (by simp [msub m hm])
      have csD:∀ m∈cs,m≠D:=fun m hm z=>by
       obtain ⟨o,q⟩:=LS0.there (SAc_stable t) m (by simp [hm])
       rw [z,nDH] at q;cases q
      have nd':(sa::bl::da::D::(cs.filter fun c=>stays H4 st.house.delay (.ref c))).Nodup:=by
       rw [List.nodup_cons,List.nodup_cons,List.nodup_cons,List.nodup_cons]
       refine ⟨fun z=>?_,fun z=>?_,fun z=>?_,fun z=>csD _ (msub _ z) rfl,cnd.sublist List.filter_sublist⟩
       ·simp only [List.mem_cons] at z
        rcases z with z | z | z | z
        ·exact a1 z
        ·exact a2 z
        ·exact saD z
        ·exact a4 (msub _ z)
       ·simp only [List.mem_cons] at z
        rcases z with z | z | z
        ·exact b1 z
        ·exact ne_of_none X.be nDH z
        ·exact b3 (msub _ z)
       ·simp only [List.mem_cons] at z
        rcases z with z | z
        ·exact ne_of_none X.dn nDH z
        ·exact c2 (msub _ z)
      obtain ⟨⟨ac',ma'⟩,de'⟩:=X.kept ch6 th
      have sh:SAc t (ln::hs::ta::ra::sa::bl::da::D::(cs.filter fun c=>stays H4 st.house.delay (.ref c))) H6 sa st.house ⟨ac,be,se,some (Vbcjaj.passed it d n),Vbcjaj.aged st.house.delay n wi,lo,mi⟩ (sa::bl::da::D::(cs.filter fun c=>stays H4 st.house.delay (.ref c))):=by
       refine ⟨dz,bl,aa,da,D,ds,cs.filter fun c=>stays H4 st.house.delay (.ref c),rfl,ob6,by rw [oth6 _ a1.symm];exact s5 _ _ (by rw [f2 _ a1.symm b3];exact X.be),ac',ma',by rw [oth6 _ a2.symm];exact s5 _ _ (by rw [f2 _ a2.symm c2];exact X.dn),X.dl,de',wr6,fl,fun i c y h1 h2=>?_,W6⟩
       obtain ⟨dc,q⟩:=fg i c y h1 h2
       exact ⟨dc,by rw [oth6 _ (ne_in a4 (msub c (List.mem_of_getElem? h1)))];exact s5 _ _ q⟩
      have fin:=fun vs e=>fin_show L k ch6 th nd' sh vs e
      show if (Vbcjaj.passed it d n).rescued=true then _ else _
      have lenE:((cs.filter fun c=>stays H4 st.house.delay (.ref c)).map V.ref).length=(Vbcjaj.aged st.house.delay n wi).length:=by rw [List.length_map];exact fl
      cases hre:(Vbcjaj.passed it d n).rescued with
      | true =>
       refine iteT ⟨_,rfl,sa,_,dz,_,_,rfl,ob6,T.cl_Show,T.no_Show_wire,rfl,D,_,rfl,.inl (SqL.of wr6),by show 2≤sizeLine;decide,fin _ ?_⟩
       rw [lenE,hre]
       rfl
      | false =>
       refine iteF ⟨_,rfl,sa,_,dz,_,_,rfl,ob6,T.cl_Show,T.no_Show_wire,rfl,D,_,rfl,.inl (SqL.of wr6),by show 2≤sizeLine;decide,fin _ ?_⟩
       rw [lenE,hre]
       rfl
end
theorem ix_nat {v:Int} {n:Nat} (h0:0≤v) (h:v.toNat < n):ixN n v=some v.toNat:=by
 unfold ixN
 rw [if_pos h0,if_pos (by omega)]
theorem set_few {l:List Nat} {i c:Nat} (h:Few l) (hc:c < 64):Few (l.set i c):=fun x hx=>by
 rcases List.mem_or_eq_of_mem_set hx with q | q
 ·exact h x q
 ·rw [q];exact hc
theorem pow_few {c:Nat} (h:c < 6):2 ^ c < 64:=by
 have:2 ^ c≤2 ^ 5:=Nat.pow_le_pow_right (by decide) (by omega)
 have:(2:Nat) ^ 5=32:=by decide
 omega
theorem mid_le {n:Nat} (h:n≤4000):n≤sizeLine:=Nat.le_trans h (by decide)
section
variable {P:Program} {w:World} {K:PySem.W.Frag} {mg:Str→Option Value} {base:Heap} {t:Ad} {SA:SRel}
theorem scGlance:FnScope ["line","prop","show"] ["line","prop"] (defScope s_answer_glance):=⟨rfl,rfl,rfl,by decide +kernel,rfl,by decide +kernel,by decide +kernel⟩
theorem ok_glance (T:Tx K mg t):FnOk P w K mg base CX0 2 t.f_answer_glance t.d_answer_glance ["line","prop"] (spOne t .glance):=by
 refine T.x_answer_glance.F.ok scGlance (fun vs H Q E h=>?_) (fun cdv A outer s H vs Q E hr h=>?_)
 ·obtain ⟨M,ln,s,v,rfl,_⟩:=h
  rfl
 ·obtain ⟨M,ln,st,v,rfl,LS,k⟩:=h
  obtain ⟨pw,mp,sp⟩:=T.k_POWERS
  refine ⟨_,pss_cons (ps_set (i:=2) scGlance.nd rfl (Or.inl rfl) (pe_fld (pv 0) rfl))
   (pss_cons (ps_if (pt_not (pt_val (pe_call (ok_within T) hr rfl T.x_within.m T.x_within.F.kp T.x_within.b .nil pass0 (pa_cons (pv 1) (pa_cons pe_int (pa_cons (pe_const rfl T.k_LAST_PROP) pa_nil)))))) (pss_one (ps_ret (pe_lst (pa_cons (pe_const rfl T.k_OUT_OF_RANGE) pa_nil)))) pss_nil)
   (pss_cons (ps_if (pt_cmp (pc_isN (pv 2))) (pss_one (ps_ret (pe_lst (pa_cons (pe_const rfl T.k_SHOW_ON_OR_OFF) pa_nil)))) pss_nil)
   (pss_cons (ps_if (pt_cmpR op_ge (pv 1) (pe_callB call_len_seq rfl T.n_len PySem.boot_len (pa_cons (pe_fld (pv 2) rfl) pa_nil)) (nomark _)) (pss_one (ps_ret (pe_lst (pa_cons (pe_const rfl T.k_NO_SUCH) pa_nil)))) pss_nil)
   (pss_cons (ps_asg (pe_ix ix_tup (pe_glob rfl mp (show RelV (.ref pw) _ from rfl)) (pe_ix ix_list (pe_fld (pv 2) rfl) (pv 1) (fun _ _=>rfl)) (fun _ _=>rfl)) (pg_sub (pe_fld (pv 2) rfl) (pv 1) set_list))
   (pss_one (ps_ret (pe_lst (pa_cons (pe_ix ix_list (pe_fld (pv 2) rfl) (pv 1) (fun _ _=>rfl)) pa_nil)))))))),?_⟩
  have LS0:=LS
  have W:=LS.wfg
  obtain ⟨dx,hs,vv,pa,ta,ra,ba,ts,rs,SM,rfl,L⟩:=LS
  refine ⟨_,rfl,ln,_,dx,_,_,rfl,L.ob,T.cl_Line,T.no_Line_show,rfl,?_⟩
  refine ⟨_,rfl,v,0,3,rfl,_,rfl,?_⟩
  have estep:Vbcjaj.step st (.glance v)=if inR v 0 3=false then Vbcjaj.no st (-1) else Vbcjaj.onStage st fun g=>match g.actual[v.toNat]? with
   | none=>Vbcjaj.no st (-4)
   | some c=>(Vbcjaj.set st { g with beliefs:=g.beliefs.set v.toNat (2 ^ c) },[Vbcjaj.whole c]):=rfl
  cases c1:inR v 0 3 with
  | false=>exact iteT (bad1 LS0 k (by rw [estep,c1,if_pos rfl];rfl) (Same.refl _))
  | true =>
   rw [c1,if_neg (by simp)] at estep
   refine iteF ?_
   have v3:0≤v∧v≤3:=by unfold inR at c1;simpa using c1
   unfold Vbcjaj.onStage at estep
   refine ⟨_,rfl,_,rfl,?_⟩
   have hsh:=L.sh
   cases hst:st.stage with
   | none =>
    rw [hst] at hsh estep
    obtain ⟨rfl,rfl⟩:=hsh
    exact iteT (bad1 LS0 k estep (Same.refl _))
   | some g =>
    rw [hst] at hsh estep
    obtain ⟨sa,rfl,dz,bl,aa,da,wa,ds,cs,rfl,X⟩:=hsh
    dsimp only at estep
    refine iteF ?_
    refine ⟨_,rfl,_,rfl,sa,_,dz,_,_,rfl,X.ob,T.cl_Show,T.no_Show_actual,rfl,aa,_,rfl,.inl (SqL.of X.ac),_,_,rfl,rfl,_,rfl,?_⟩
    rw [List.length_map]
    refine ifB (fun y=>?_) (fun y=>?_)
    ·have y':=of_decide_eq_true y
     rw [List.getElem?_eq_none (by omega)] at estep
     exact bad1 LS0 k estep (Same.refl _)
    ·have y':=of_decide_eq_false y
     have alt:v.toNat < g.actual.length:=by omega
     obtain ⟨c,hc⟩:∃ c,g.actual[v.toNat]?=some c:=⟨_,List.getElem?_eq_getElem alt⟩
     rw [hc] at estep
     dsimp only at estep
     rw [estep] at k
     have W0:=X.wf
     have c6:c < 6:=W0.a6 c (List.mem_of_getElem? hc)
     have hcv:(nv g.actual)[v.toNat]?=some (.int (c:Int)):=by unfold nv;rw [List.getElem?_map,hc];rfl
     obtain ⟨⟨a1,a2,a3,a4⟩,⟨b1,b2,b3⟩,⟨c1,c2⟩,d1,cnd⟩:=nd_show L.nd
     refine ⟨_,rfl,sa,_,dz,_,_,rfl,X.ob,T.cl_Show,T.no_Show_actual,rfl,_,rfl,aa,_,_,_,rfl,rfl,SqL.of X.ac,at_of (j:=v.toNat) (by omega) hcv,pw,_,_,_,rfl,rfl,sp H,pow_at (by omega),?_⟩
     refine ⟨_,rfl,sa,_,dz,_,_,rfl,X.ob,T.cl_Show,T.no_Show_beliefs,rfl,_,rfl,bl,_,v,v.toNat,rfl,rfl,X.be,ix_nat v3.1 (by rw [List.length_map,W0.bl,← W0.al];exact alt),?_⟩
     have es:(nv g.beliefs).set v.toNat (V.int ((2 ^ c:Nat):Int))=nv (g.beliefs.set v.toNat (2 ^ c)):=by unfold nv;rw [List.map_set]
     rw [es]
     have ch:Chg (sa::bl::da::wa::cs) H (upd H bl (.lst (nv (g.beliefs.set v.toNat (2 ^ c))))):=Chg.upd (by simp)
     have fr:∀ m∈cs,m∈cs∨H m=none:=fun m hm=>.inl hm
     obtain ⟨⟨ac',ma'⟩,de'⟩:=X.kept ch (th_sub fr)
     have ob':upd H bl (.lst (nv (g.beliefs.set v.toNat (2 ^ c)))) sa=_:=(upd_ne a1).trans X.ob
     refine ⟨_,rfl,sa,_,dz,_,_,rfl,ob',T.cl_Show,T.no_Show_actual,rfl,_,rfl,aa,_,_,_,rfl,rfl,SqL.of ac',at_of (j:=v.toNat) (by omega) hcv,by show 1≤sizeLine;decide,?_⟩
     refine fin_show L k ch (th_sub fr) (nd_mk L.nd X.ob X.be X.dn X.wr cnd fr) ⟨dz,bl,aa,da,wa,ds,cs,rfl,ob',upd_same,ac',ma',by rw [upd_ne b1.symm];exact X.dn,X.dl,de',by rw [upd_ne b2.symm];exact X.wr,X.wn,fun i c y h1 h2=>?_,⟨W0.al,W0.a6,?_,set_few W0.bf (pow_few c6),W0.wl,W0.ll,W0.lm,W0.dg⟩⟩ _ rfl
     ·obtain ⟨dc,q⟩:=X.wc i c y h1 h2
      exact ⟨dc,by rw [upd_ne (ne_in b3 (List.mem_of_getElem? h1))];exact q⟩
     ·show (g.beliefs.set v.toNat (2 ^ c)).length=_
      rw [List.length_set]
      exact W0.bl
def spNon (t:Ad) (c:Vbcjaj.Call):Sp:=fun vs H Q _=>∃ (M:List Addr) (ln:Addr) (s:Vbcjaj.State),vs=[.ref ln]∧LineSt t (SAc t) M H ln s∧newSt t (SAc t) M H ln (Vbcjaj.step s c) Q
def stateAns (g:Vbcjaj.Stage):List Int:=(match g.doing with
   | none=>[-1,Vbcjaj.whole g.serial,0,-1,0]
   | some d=>[Vbcjaj.whole d.item,Vbcjaj.whole g.serial,Vbcjaj.whole d.ticks,Vbcjaj.orMinus d.value,Vbcjaj.bit d.rescued])++(Vbcjaj.whole g.minutes::Vbcjaj.ints g.beliefs)
theorem scState:FnScope ["line","show","rescued"] ["line"] (defScope s_answer_state):=⟨rfl,rfl,rfl,by decide +kernel,rfl,by decide +kernel,by decide +kernel⟩
theorem ok_state (T:Tx K mg t):FnOk P w K mg base CX0 5 t.f_answer_state t.d_answer_state ["line"] (spNon t .state):=by
 refine T.x_answer_state.F.ok scState (fun vs H Q E h=>?_) (fun cdv A outer s H vs Q E hr h=>?_)
 ·obtain ⟨M,ln,s,rfl,_⟩:=h
  rfl
 ·obtain ⟨M,ln,st,rfl,LS,k⟩:=h
  refine ⟨_,pss_cons (ps_set (i:=1) scState.nd rfl (Or.inl rfl) (pe_fld (pv 0) rfl))
   (pss_cons (ps_if (pt_cmp (pc_isN (pv 1))) (pss_one (ps_ret (pe_lst (pa_cons (pe_const rfl T.k_SHOW_ON_OR_OFF) pa_nil)))) pss_nil)
   (pss_cons (ps_set (i:=2) scState.nd rfl (Or.inl rfl) (pe_ifExp (pt_val (pe_call (ok_resc T) hr rfl T.x_is_rescued.m T.x_is_rescued.F.kp T.x_is_rescued.b .nil pass0 (pa_cons (pe_fld (pv 0) rfl) (pa_cons (pv 1) pa_nil)))) pe_int pe_int))
   (pss_one (ps_ret (pe_op op_cat (pe_lst (pa_cons (pe_fld (pv 1) rfl) (pa_cons (pe_fld (pv 1) rfl) (pa_cons (pe_fld (pv 1) rfl) (pa_cons (pe_fld (pv 1) rfl) (pa_cons (pv 2) (pa_cons (pe_fld (pv 1) rfl) pa_nil))))))) (pe_fld (pv 1) rfl)))))),?_⟩
  have LS0:=LS
  obtain ⟨dx,hs,vv,pa,ta,ra,ba,ts,rs,SM,rfl,L⟩:=LS
  refine ⟨_,rfl,ln,_,dx,_,_,rfl,L.ob,T.cl_Line,T.no_Line_show,rfl,?_⟩
  have estep:Vbcjaj.step st .state=Vbcjaj.onStage st fun g=>(st,stateAns g):=rfl
  unfold Vbcjaj.onStage at estep
  refine ⟨_,rfl,_,rfl,?_⟩
  have hsh:=L.sh
  cases hst:st.stage with
  | none =>
   rw [hst] at hsh estep
   obtain ⟨rfl,rfl⟩:=hsh
   exact iteT (bad1 LS0 k estep (Same.refl _))
  | some g =>
   rw [hst] at hsh estep
   obtain ⟨sa,rfl,dz,bl,aa,da,wa,ds,cs,rfl,X⟩:=hsh
   dsimp only at estep
   rw [estep] at k
   refine iteF ?_
   have on:ShowOn t (ln::hs::ta::ra::sa::bl::da::wa::cs) H hs sa st.house g:=⟨⟨pa,ta,ra,ba,ts,rs,L.house⟩,⟨dz,bl,aa,da,wa,X.ob⟩,X.wf⟩
   refine ⟨_,rfl,ln,_,dx,_,_,rfl,L.ob,T.cl_Line,T.no_Line_house,rfl,_,rfl,_,hs,sa,st.house,g,rfl,on,_,rfl,?_⟩
   have hbl:=X.wf.bl
   have hpl:=L.wf.pl
   have key:∀ r:Int,r=Vbcjaj.bit (rescB g)→tRet (tOp rCat (tLst (tCons (tFld K (tVar 1) "doing") (tCons (tFld K (tVar 1) "serial") (tCons (tFld K (tVar 1) "ticks") (tCons (tFld K (tVar 1) "taken") (tCons (tVar 2) (tCons (tFld K (tVar 1) "minutes") tNil))))))) (tFld K (tVar 1) "beliefs")) { nx:=fun _ H'=>Q .non H',rt:=Q } [some (.ref ln),some (.ref sa),some (.int r)] H:=fun r hr'=>by
    refine ⟨_,rfl,sa,_,dz,_,_,rfl,X.ob,T.cl_Show,T.no_Show_doing,rfl,_,rfl,sa,_,dz,_,_,rfl,X.ob,T.cl_Show,T.no_Show_serial,rfl,_,rfl,sa,_,dz,_,_,rfl,X.ob,T.cl_Show,T.no_Show_ticks,rfl,_,rfl,sa,_,dz,_,_,rfl,X.ob,T.cl_Show,T.no_Show_taken,rfl,_,rfl,_,rfl,sa,_,dz,_,_,rfl,X.ob,T.cl_Show,T.no_Show_minutes,rfl,by show 6≤sizeLine;decide,fun D1 n1=>?_⟩
    have s1:=Same.new (o:=HO.lst [V.int (dI g.doing),V.int (g.serial:Int),V.int (kI g.doing),V.int (vI g.doing),V.int r,V.int (g.minutes:Int)]) n1
    refine ⟨_,rfl,sa,_,dz,_,_,rfl,s1 _ _ X.ob,T.cl_Show,T.no_Show_beliefs,rfl,D1,bl,_,_,rfl,rfl,upd_same,s1 _ _ X.be,by rw [List.length_map];exact small_le (by show 6 + g.beliefs.length≤1000;omega),?_⟩
    refine (k.stay (SAc_stable t) LS0).one s1 _ ?_
    have cast:∀ l:List Nat,(Vbcjaj.ints l).map V.int=nv l:=fun l=>by unfold Vbcjaj.ints nv;rw [List.map_map];rfl
    unfold stateAns
    rw [List.map_append,List.map_cons,cast,hr']
    unfold rescB
    cases g.doing with
    | none=>rfl
    | some d=>rfl
   cases hre:rescB g with
   | true=>exact iteT (key 1 (by rw [hre];rfl))
   | false=>exact iteF (key 0 (by rw [hre];rfl))
def entN (e:Vbcjaj.Entry):List Int:=[Vbcjaj.whole e.item,Vbcjaj.orMinus e.value,Vbcjaj.bit e.rescued]
theorem scLog:FnScope ["line","show","log","done"] ["line"] (defScope s_answer_log):=⟨rfl,rfl,rfl,by decide +kernel,rfl,by decide +kernel,by decide +kernel⟩
theorem ok_log (T:Tx K mg t):FnOk P w K mg base CX0 1 t.f_answer_log t.d_answer_log ["line"] (spNon t .log):=by
 refine T.x_answer_log.F.ok scLog (fun vs H Q E h=>?_) (fun cdv A outer s H vs Q E hr h=>?_)
 ·obtain ⟨M,ln,s,rfl,_⟩:=h
  rfl
 ·obtain ⟨M,ln,st,rfl,LS,k⟩:=h
  refine ⟨_,pss_cons (ps_set (i:=1) scLog.nd rfl (Or.inl rfl) (pe_fld (pv 0) rfl))
   (pss_cons (ps_if (pt_cmp (pc_isN (pv 1))) (pss_one (ps_ret (pe_lst (pa_cons (pe_const rfl T.k_SHOW_ON_OR_OFF) pa_nil)))) pss_nil)
   (pss_cons (ps_set (i:=2) scLog.nd rfl (Or.inl rfl) (pe_lst (pa_cons (pe_callB call_len_seq rfl T.n_len PySem.boot_len (pa_cons (pe_fld (pv 1) rfl) pa_nil)) pa_nil)))
   (pss_cons (ps_for PassesOwn.never rfl (pi_list (pe_fld (pv 1) rfl)) (pg_name (i:=3) scLog.nd rfl (Or.inl rfl))
    (pss_one (ps_expr (pe_bm PySem.F.plainAttrs_list PySem.F.slot_list_extend PySem.F.type_list_extend mt_extend (pv 2) (pa_cons (pe_lst (pa_cons (pe_fld (pv 3) rfl) (pa_cons (pe_fld (pv 3) rfl) (pa_cons (pe_ifExp (pt_val (pe_fld (pv 3) rfl)) pe_int pe_int) pa_nil)))) pa_nil)))))
   (pss_one (ps_ret (pv 2)))))),?_⟩
  have LS0:=LS
  obtain ⟨dx,hs,vv,pa,ta,ra,ba,ts,rs,SM,rfl,L⟩:=LS
  refine ⟨_,rfl,ln,_,dx,_,_,rfl,L.ob,T.cl_Line,T.no_Line_show,rfl,?_⟩
  have estep:Vbcjaj.step st .log=Vbcjaj.onStage st fun g=>(st,Vbcjaj.whole g.log.length::g.log.flatMap entN):=rfl
  unfold Vbcjaj.onStage at estep
  refine ⟨_,rfl,_,rfl,?_⟩
  have hsh:=L.sh
  cases hst:st.stage with
  | none =>
   rw [hst] at hsh estep
   obtain ⟨rfl,rfl⟩:=hsh
   exact iteT (bad1 LS0 k estep (Same.refl _))
  | some g =>
   rw [hst] at hsh estep
   obtain ⟨sa,rfl,dz,bl,aa,da,wa,ds,cs,rfl,X⟩:=hsh
   dsimp only at estep
   rw [estep] at k
   refine iteF ?_
   have l1:=X.wf.ll
   have l2:=X.wf.lm
   have l3:=L.wf.lim
   have ki:=k.stay (SAc_stable t) LS0
   refine ⟨_,rfl,sa,_,dz,_,_,rfl,X.ob,T.cl_Show,T.no_Show_done,rfl,da,_,rfl,.inl (SqL.of X.dn),by show 1≤sizeLine;decide,fun D nD=>?_⟩
   have s0:=Same.new (o:=HO.lst [V.int ((ds.map V.ref).length:Int)]) nD
   have hD0:upd H D (.lst [V.int ((ds.map V.ref).length:Int)]) D=some (.lst ([Vbcjaj.whole g.log.length].map V.int)):=by rw [upd_same,List.length_map,X.dl];rfl
   generalize upd H D (.lst [V.int ((ds.map V.ref).length:Int)])=H0 at s0 hD0 ⊢
   refine ⟨_,rfl,sa,_,dz,_,_,rfl,s0 _ _ X.ob,T.cl_Show,T.no_Show_done,rfl,da,rfl,⟨_,SqL.of (s0 _ _ X.dn)⟩,?_⟩
   refine for_list (K:=K) (a:=da) (xs:=ds.map V.ref) (fun i σ H'=>∃ v3:Option V,σ=[some (.ref ln),some (.ref sa),some (.ref D),v3]∧Same H H'∧H' D=some (.lst (([Vbcjaj.whole g.log.length]++(g.log.take i).flatMap entN).map V.int))∧((g.log.take i).flatMap entN).length≤3 * i)
    ⟨none,rfl,s0,by rw [List.take_zero,List.flatMap_nil,List.append_nil];exact hD0,Nat.le_refl _⟩ (fun i σ H' _ ⟨_,_,sm,_⟩=>SqL.of (sm _ _ X.dn)) ?_ ?_
   ·rintro i y σ H' hy ⟨v3,rfl,sm,hD,bd⟩
    obtain ⟨x,hx,rfl⟩:=get_map hy
    have hi:i < g.log.length:=by rw [← X.dl];exact (List.getElem?_eq_some_iff.mp hx).1
    obtain ⟨e,he⟩:∃ e,g.log[i]?=some e:=⟨_,List.getElem?_eq_getElem hi⟩
    obtain ⟨_,dd,q⟩:=X.de i x e hx he
    have etk:(g.log.take (i + 1)).flatMap entN=(g.log.take i).flatMap entN++entN e:=by
     rw [List.take_add_one,he,List.flatMap_append]
     show _++List.flatMap entN [e]=_
     rw [List.flatMap_singleton]
    refine ⟨_,rfl,Or.inl ⟨rfl,_,SqL.of hD⟩,_,rfl,x,_,dd,_,_,rfl,sm _ _ q,T.cl_Done,T.no_Done_number,rfl,_,rfl,x,_,dd,_,_,rfl,sm _ _ q,T.cl_Done,T.no_Done_taken,rfl,_,rfl,x,_,dd,_,_,rfl,sm _ _ q,T.cl_Done,T.no_Done_rescued,rfl,_,rfl,?_⟩
    have go:∀ r:Int,r=Vbcjaj.bit e.rescued→∀ a1,H' a1=none→upd H' a1 (.lst [V.int (e.item:Int),V.int (Vbcjaj.orMinus e.value),V.int r]) D=some (.lst (([Vbcjaj.whole g.log.length]++(g.log.take i).flatMap entN).map V.int))∧upd H' a1 (.lst [V.int (e.item:Int),V.int (Vbcjaj.orMinus e.value),V.int r]) a1=some (.lst ((entN e).map V.int))∧Same H (upd H' a1 (.lst [V.int (e.item:Int),V.int (Vbcjaj.orMinus e.value),V.int r])):=fun r hr' a1 n1=>by
     have s1:=Same.new (o:=HO.lst [V.int (e.item:Int),V.int (Vbcjaj.orMinus e.value),V.int r]) n1
     exact ⟨s1 _ _ hD,by rw [upd_same,hr'];rfl,sm.trans s1⟩
    have fin:∀ (H2:Hp) (a1:Addr),H2 D=some (.lst (([Vbcjaj.whole g.log.length]++(g.log.take i).flatMap entN).map V.int))→H2 a1=some (.lst ((entN e).map V.int))→Same H H2→rExtend (.ref D) [.ref a1] H2 (fun _ H3=>∃ v3:Option V,[some (V.ref ln),some (V.ref sa),some (V.ref D),some (V.ref x)]=[some (.ref ln),some (.ref sa),some (.ref D),v3]∧Same H H3∧H3 D=some (.lst (([Vbcjaj.whole g.log.length]++(g.log.take (i + 1)).flatMap entN).map V.int))∧((g.log.take (i + 1)).flatMap entN).length≤3 * (i + 1)):=fun H2 a1 q1 q2 s2=>by
     refine ⟨D,a1,_,_,rfl,rfl,q1,q2,?_,some (.ref x),rfl,Same.over nD s2,?_,?_⟩
     ·rw [List.length_map,List.length_map,List.length_append]
      have:([Vbcjaj.whole g.log.length]:List Int).length=1:=rfl
      have:(entN e).length=3:=rfl
      exact mid_le (by omega)
     ·rw [upd_same,← List.map_append,etk,List.append_assoc]
     ·rw [etk,List.length_append]
      have:(entN e).length=3:=rfl
      omega
    cases hre:e.rescued with
    | true =>
     refine iteT ⟨by show 3≤sizeLine;decide,fun a1 n1=>?_⟩
     obtain ⟨q1,q2,q3⟩:=go 1 (by rw [hre];rfl) a1 n1
     exact fin _ a1 q1 q2 q3
    | false =>
     refine iteF ⟨by show 3≤sizeLine;decide,fun a1 n1=>?_⟩
     obtain ⟨q1,q2,q3⟩:=go 0 (by rw [hre];rfl) a1 n1
     exact fin _ a1 q1 q2 q3
   ·rintro σ H2 ⟨v3,rfl,s2,hD2,_⟩
    have efull:g.log.take (ds.map V.ref).length=g.log:=by rw [List.length_map,X.dl,List.take_length]
    rw [efull] at hD2
    exact ⟨_,rfl,ki _ D s2 nD hD2⟩
def cueN (c:Vbcjaj.Cue):List Int:=Vbcjaj.ints [c.serial,c.no,c.value,c.age]
theorem scWire:FnScope ["line","show","wire","cue"] ["line"] (defScope s_answer_wire):=⟨rfl,rfl,rfl,by decide +kernel,rfl,by decide +kernel,by decide +kernel⟩
theorem ok_wire (T:Tx K mg t):FnOk P w K mg base CX0 1 t.f_answer_wire t.d_answer_wire ["line"] (spNon t .wire):=by
 refine T.x_answer_wire.F.ok scWire (fun vs H Q E h=>?_) (fun cdv A outer s H vs Q E hr h=>?_)
 ·obtain ⟨M,ln,s,rfl,_⟩:=h
  rfl
 ·obtain ⟨M,ln,st,rfl,LS,k⟩:=h
  refine ⟨_,pss_cons (ps_set (i:=1) scWire.nd rfl (Or.inl rfl) (pe_fld (pv 0) rfl))
   (pss_cons (ps_if (pt_cmp (pc_isN (pv 1))) (pss_one (ps_ret (pe_lst (pa_cons (pe_const rfl T.k_SHOW_ON_OR_OFF) pa_nil)))) pss_nil)
   (pss_cons (ps_set (i:=2) scWire.nd rfl (Or.inl rfl) (pe_lst (pa_cons (pe_callB call_len_seq rfl T.n_len PySem.boot_len (pa_cons (pe_fld (pv 1) rfl) pa_nil)) pa_nil)))
   (pss_cons (ps_for PassesOwn.never rfl (pi_list (pe_fld (pv 1) rfl)) (pg_name (i:=3) scWire.nd rfl (Or.inl rfl))
    (pss_one (ps_expr (pe_bm PySem.F.plainAttrs_list PySem.F.slot_list_extend PySem.F.type_list_extend mt_extend (pv 2) (pa_cons (pe_lst (pa_cons (pe_fld (pv 3) rfl) (pa_cons (pe_fld (pv 3) rfl) (pa_cons (pe_fld (pv 3) rfl) (pa_cons (pe_fld (pv 3) rfl) pa_nil))))) pa_nil)))))
   (pss_one (ps_ret (pv 2)))))),?_⟩
  have LS0:=LS
  obtain ⟨dx,hs,vv,pa,ta,ra,ba,ts,rs,SM,rfl,L⟩:=LS
  refine ⟨_,rfl,ln,_,dx,_,_,rfl,L.ob,T.cl_Line,T.no_Line_show,rfl,?_⟩
  have estep:Vbcjaj.step st .wire=Vbcjaj.onStage st fun g=>(st,Vbcjaj.whole g.wire.length::g.wire.flatMap cueN):=rfl
  unfold Vbcjaj.onStage at estep
  refine ⟨_,rfl,_,rfl,?_⟩
  have hsh:=L.sh
  cases hst:st.stage with
  | none =>
   rw [hst] at hsh estep
   obtain ⟨rfl,rfl⟩:=hsh
   exact iteT (bad1 LS0 k estep (Same.refl _))
  | some g =>
   rw [hst] at hsh estep
   obtain ⟨sa,rfl,dz,bl,aa,da,wa,ds,cs,rfl,X⟩:=hsh
   dsimp only at estep
   rw [estep] at k
   refine iteF ?_
   have l1:=X.wf.wl
   have ki:=k.stay (SAc_stable t) LS0
   refine ⟨_,rfl,sa,_,dz,_,_,rfl,X.ob,T.cl_Show,T.no_Show_wire,rfl,wa,_,rfl,.inl (SqL.of X.wr),by show 1≤sizeLine;decide,fun D nD=>?_⟩
   have s0:=Same.new (o:=HO.lst [V.int ((cs.map V.ref).length:Int)]) nD
   have hD0:upd H D (.lst [V.int ((cs.map V.ref).length:Int)]) D=some (.lst ([Vbcjaj.whole g.wire.length].map V.int)):=by rw [upd_same,List.length_map,X.wn];rfl
   generalize upd H D (.lst [V.int ((cs.map V.ref).length:Int)])=H0 at s0 hD0 ⊢
   refine ⟨_,rfl,sa,_,dz,_,_,rfl,s0 _ _ X.ob,T.cl_Show,T.no_Show_wire,rfl,wa,rfl,⟨_,SqL.of (s0 _ _ X.wr)⟩,?_⟩
   refine for_list (K:=K) (a:=wa) (xs:=cs.map V.ref) (fun i σ H'=>∃ v3:Option V,σ=[some (.ref ln),some (.ref sa),some (.ref D),v3]∧Same H H'∧H' D=some (.lst (([Vbcjaj.whole g.wire.length]++(g.wire.take i).flatMap cueN).map V.int))∧((g.wire.take i).flatMap cueN).length≤4 * i)
    ⟨none,rfl,s0,by rw [List.take_zero,List.flatMap_nil,List.append_nil];exact hD0,Nat.le_refl _⟩ (fun i σ H' _ ⟨_,_,sm,_⟩=>SqL.of (sm _ _ X.wr)) ?_ ?_
   ·rintro i y σ H' hy ⟨v3,rfl,sm,hD,bd⟩
    obtain ⟨x,hx,rfl⟩:=get_map hy
    have hi:i < g.wire.length:=by rw [← X.wn];exact (List.getElem?_eq_some_iff.mp hx).1
    obtain ⟨e,he⟩:∃ e,g.wire[i]?=some e:=⟨_,List.getElem?_eq_getElem hi⟩
    obtain ⟨dd,q⟩:=X.wc i x e hx he
    have etk:(g.wire.take (i + 1)).flatMap cueN=(g.wire.take i).flatMap cueN++cueN e:=by
     rw [List.take_add_one,he,List.flatMap_append]
     show _++List.flatMap cueN [e]=_
     rw [List.flatMap_singleton]
    refine ⟨_,rfl,Or.inl ⟨rfl,_,SqL.of hD⟩,_,rfl,x,_,dd,_,_,rfl,sm _ _ q,T.cl_Cue,T.no_Cue_serial,rfl,_,rfl,x,_,dd,_,_,rfl,sm _ _ q,T.cl_Cue,T.no_Cue_number,rfl,_,rfl,x,_,dd,_,_,rfl,sm _ _ q,T.cl_Cue,T.no_Cue_value,rfl,_,rfl,x,_,dd,_,_,rfl,sm _ _ q,T.cl_Cue,T.no_Cue_age,rfl,by show 4≤sizeLine;decide,fun a1 n1=>?_⟩
    have s1:=Same.new (o:=HO.lst [V.int (e.serial:Int),V.int (e.no:Int),V.int (e.value:Int),V.int (e.age:Int)]) n1
    have ln4:(cueN e).length=4:=rfl
    refine ⟨D,a1,_,_,rfl,rfl,s1 _ _ hD,upd_same,?_,some (.ref x),rfl,Same.over nD (sm.trans s1),?_,?_⟩
    ·rw [List.length_map,List.length_append]
     have:([Vbcjaj.whole g.wire.length]:List Int).length=1:=rfl
     exact mid_le (by show _ + 4≤4000;omega)
    ·rw [upd_same,etk,← List.append_assoc,List.map_append (l₂:=cueN e)]
     rfl
    ·rw [etk,List.length_append]
     omega
   ·rintro σ H2 ⟨v3,rfl,s2,hD2,_⟩
    have efull:g.wire.take (cs.map V.ref).length=g.wire:=by rw [List.length_map,X.wn,List.take_length]
    rw [efull] at hD2
    exact ⟨_,rfl,ki _ D s2 nD hD2⟩
end
theorem boot_any_:bootBuiltins "any"=some (.builtin "any"):=by decide +kernel
section
variable {P:Program} {w:World} {K:PySem.W.Frag} {mg:Str→Option Value} {base:Heap} {t:Ad} {SA:SRel}
def spWas (t:Ad):Sp:=fun vs H Q _=>∃ (M:List Addr) (sa:Addr) (h:Vbcjaj.House) (g:Vbcjaj.Stage) (dx ba aa da wa:Addr) (ds cs:List Addr) (i:Nat),vs=[.ref sa,.int i]∧ShA t M H sa h g dx ba aa da wa ds cs∧g.log.length≤1000∧∀ H',Same H H'→Q (.bl (Vbcjaj.doneIn g i)) H'
theorem scWas:FnScope ["show","number","done"] ["show","number"] (defScope s_was_done):=⟨rfl,rfl,rfl,by decide +kernel,rfl,by decide +kernel,by decide +kernel⟩
theorem ok_was (T:Tx K mg t):FnOk P w K mg base CX0 1 t.f_was_done t.d_was_done ["show","number"] (spWas t):=by
 refine T.x_was_done.F.ok scWas (fun vs H Q E h=>?_) (fun cdv A outer s H vs Q E hr h=>?_)
 ·obtain ⟨M,sa,h,g,dx,ba,aa,da,wa,ds,cs,i,rfl,_⟩:=h
  rfl
 ·obtain ⟨M,sa,h,g,dx,ba,aa,da,wa,ds,cs,i,rfl,X,hz,k⟩:=h
  refine ⟨_,pss_one (ps_ret (pe_callB (cr_any rfl) rfl T.n_any boot_any_ (pa_cons (pe_lc (own:=[("done",2)]) (te:=tOp rEq (tFld K (tVar 2) "number") (tVar 1)) rfl scWas.nd (pi_list (pe_fld (pv 0) rfl)) (blkOk_by (show blkC ["show","number","done"] (defScope s_was_done) _ _=true by decide +kernel)) (fun _ _ _ _ _=>pg_name (i:=2) scWas.nd rfl (Or.inl rfl)) (fun _ _ _ _ _=>pts_nil)
   (fun _ _ _ _ _=>by (refine pe_cmpR op_eq ?_ ?_ (nomark _);(exact pe_fld (pv 2) rfl);(exact pv 1)))) pa_nil))),?_⟩
  refine ⟨_,rfl,sa,_,dx,_,_,rfl,X.ob,T.cl_Show,T.no_Show_done,rfl,da,rfl,⟨_,SqL.of X.dn⟩,fun D nD=>?_⟩
  have none_:∀ j,j < g.log.length→∃ e,g.log[j]?=some e:=fun j hj=>⟨_,List.getElem?_eq_getElem hj⟩
  refine lcl_map (xs:=ds.map V.ref) (fun j=>.bl ((g.log[j]?.map fun e=>e.item == i).getD false)) (by rw [List.length_map,X.dl];exact small_le hz) nD (SqL.of X.dn) (fun j x H' hx sm R hR=>?_) (fun H' sm e=>?_)
  ·obtain ⟨d,hd,rfl⟩:=get_map hx
   obtain ⟨e,he⟩:=none_ j (by rw [← X.dl];exact (List.getElem?_eq_some_iff.mp hd).1)
   obtain ⟨_,dd,q⟩:=X.de j d e hd he
   rw [he] at hR
   refine ⟨rfl,_,rfl,d,_,dd,_,_,rfl,sm _ _ q,T.cl_Done,T.no_Done_number,rfl,_,rfl,rfl,?_⟩
   rw [dec_int_eq]
   have eb:(Option.map (fun e:Vbcjaj.Entry=>e.item == i) (some e)).getD false=decide (e.item=i):=by
    show (e.item == i)=_
    by_cases z:e.item=i
    ·rw [z];simp
    ·rw [decide_eq_false z];simpa using z
   rw [eb] at hR
   exact hR _ (Same.refl _)
  ·rw [List.length_map,X.dl,range_map g.log _ (fun e=>V.bl (e.item == i)) (fun j x hx=>by rw [hx];rfl)] at e
   refine ⟨D,g.log.map fun e=>e.item == i,rfl,SqL.of (by rw [e,List.map_map];rfl),?_⟩
   rw [List.any_map]
   exact k _ sm
def begI (h:Vbcjaj.House) (g:Vbcjaj.Stage) (i:Nat):Int:=if g.doing.isSome=true then -5 else match Vbcjaj.itemAt h i with
 | none=>-4
 | some it=>if i < 8∧Vbcjaj.doneIn g i=true then -9 else if Vbcjaj.sure g.beliefs it=false then -10 else if h.limit < g.minutes + it.minutes then -6 else 0
def spRefB (t:Ad):Sp:=fun vs H Q _=>∃ (M:List Addr) (hs sa:Addr) (h:Vbcjaj.House) (g:Vbcjaj.Stage) (dx ba aa da wa:Addr) (ds cs:List Addr) (i:Nat),vs=[.ref hs,.ref sa,.int i]∧IsHouse t M H hs h∧Wf h∧ShA t M H sa h g dx ba aa da wa ds cs∧∀ H',Same H H'→Q (.int (begI h g i)) H'
theorem scRefB:FnScope ["house","show","number","item"] ["house","show","number"] (defScope s_refusal_of_begin):=⟨rfl,rfl,rfl,by decide +kernel,rfl,by decide +kernel,by decide +kernel⟩
theorem ok_refB (T:Tx K mg t):FnOk P w K mg base CX0 3 t.f_refusal_of_begin t.d_refusal_of_begin ["house","show","number"] (spRefB t):=by
 refine T.x_refusal_of_begin.F.ok scRefB (fun vs H Q E h=>?_) (fun cdv A outer s H vs Q E hr h=>?_)
 ·obtain ⟨M,hs,sa,h,g,dx,ba,aa,da,wa,ds,cs,i,rfl,_⟩:=h
  rfl
 ·obtain ⟨M,hs,sa,h,g,dx,ba,aa,da,wa,ds,cs,i,rfl,ih,Wh,X,k⟩:=h
  refine ⟨_,pss_cons (ps_if (pt_cmpR op_ne (pe_fld (pv 1) rfl) (pe_const rfl T.k_NO_ITEM) (nomark _)) (pss_one (ps_ret (pe_const rfl T.k_BUSY_OR_IDLE))) pss_nil)
   (pss_cons (ps_set (i:=3) scRefB.nd rfl (Or.inl rfl) (pe_call (ok_itemAt T) hr rfl T.x_item_at.m T.x_item_at.F.kp T.x_item_at.b .nil pass0 (pa_cons (pv 0) (pa_cons (pv 2) pa_nil))))
   (pss_cons (ps_if (pt_cmp (pc_isN (pv 3))) (pss_one (ps_ret (pe_const rfl T.k_NO_SUCH))) pss_nil)
   (pss_cons (ps_if (PW.pt (pw_and (pt_val (pe_call (ok_isTrick T) (hr.mono (by decide)) rfl T.x_is_trick.m T.x_is_trick.F.kp T.x_is_trick.b .nil pass0 (pa_cons (pv 2) pa_nil))) (pw_and1 (pt_val (pe_call (ok_was T) (hr.mono (by decide)) rfl T.x_was_done.m T.x_was_done.F.kp T.x_was_done.b .nil pass0 (pa_cons (pv 1) (pa_cons (pv 2) pa_nil))))))) (pss_one (ps_ret (pe_const rfl T.k_TRICK_WAS_DONE))) pss_nil)
   (pss_cons (ps_if (pt_not (pt_val (pe_call (ok_isSure T) (hr.mono (by decide)) rfl T.x_is_sure.m T.x_is_sure.F.kp T.x_is_sure.b .nil pass0 (pa_cons (pv 3) (pa_cons (pe_fld (pv 1) rfl) pa_nil))))) (pss_one (ps_ret (pe_const rfl T.k_NOT_SURE))) pss_nil)
   (pss_cons (ps_if (pt_cmpR op_gt (pe_op op_add (pe_fld (pv 1) rfl) (pe_fld (pv 3) rfl)) (pe_fld (pv 0) rfl) (nomark _)) (pss_one (ps_ret (pe_const rfl T.k_OVER_LIMIT))) pss_nil)
   (pss_one (ps_ret pe_int))))))),?_⟩
  have X0:=X
  have hob:=X.ob
  have hbe:=X.be
  have W0:=X.wf
  obtain ⟨ac,be,se,dg,wi,lo,mi⟩:=g
  refine ⟨_,rfl,sa,_,dx,_,_,rfl,hob,T.cl_Show,T.no_Show_doing,rfl,rfl,_,rfl,?_⟩
  cases dg with
  | some d =>
   show if (!decide (V.int ((d.item:Nat):Int)=V.int (-1)))=true then _ else _
   rw [nat_ne]
   exact iteT (k _ (Same.refl _))
  | none =>
   refine iteF ?_
   refine ⟨_,rfl,_,rfl,M,hs,i,h,rfl,ih,fun v hv=>?_⟩
   have ke:∀ H',Same H H'→Q (.int (match Vbcjaj.itemAt h i with
    | none=>-4
    | some it=>if i < 8∧Vbcjaj.doneIn ⟨ac,be,se,none,wi,lo,mi⟩ i=true then -9 else if Vbcjaj.sure be it=false then -10 else if h.limit < mi + it.minutes then -6 else 0)) H':=k
   refine ⟨_,rfl,_,rfl,?_⟩
   cases hi:Vbcjaj.itemAt h i with
   | none =>
    rw [hi] at hv ke
    rcases hv with ⟨_,rfl⟩ | ⟨x,it',e,_⟩
    ·exact iteT (ke _ (Same.refl _))
    ·cases e
   | some it =>
    rw [hi] at hv ke
    obtain ⟨x,rfl,ii⟩:=hv.some_
    dsimp only at ke
    refine iteF ?_
    have gi:=itemAt_good Wh hi
    have hpl:=Wh.pl
    have hbl:be.length=h.props.length:=W0.bl
    have hlm:mi≤h.limit:=W0.lm
    have hll:lo.length≤mi:=W0.ll
    have hlim:=Wh.lim
    refine ⟨_,rfl,i,rfl,_,rfl,?_⟩
    by_cases h8:i < 8
    ·rw [decide_eq_true h8]
     refine iteT ?_
     refine ⟨_,rfl,_,rfl,M,sa,h,_,dx,ba,aa,da,wa,ds,cs,i,rfl,X0,by show lo.length≤1000;omega,fun H1 s1=>⟨_,rfl,?_⟩⟩
     cases hdn:Vbcjaj.doneIn ⟨ac,be,se,none,wi,lo,mi⟩ i with
     | true =>
      rw [if_pos ⟨h8,hdn⟩] at ke
      exact iteT (ke _ s1)
     | false =>
      refine iteF ?_
      have hn:¬ (i < 8∧Vbcjaj.doneIn ⟨ac,be,se,none,wi,lo,mi⟩ i=true):=fun z=>by rw [hdn] at z;exact absurd z.2 (by simp)
      refine ⟨_,rfl,_,rfl,sa,_,dx,_,_,rfl,s1 _ _ hob,T.cl_Show,T.no_Show_beliefs,rfl,M,x,ba,it,be,rfl,ii.same s1,SqL.of (s1 _ _ hbe),gi.need.trans hbl.symm,small_le (by omega),W0.bf,gi.f1,fun H2 s2=>⟨_,rfl,?_⟩⟩
      have s12:=(s1).trans s2
      rw [if_neg hn] at ke
      cases hsu:Vbcjaj.sure be it with
      | false =>
       rw [if_pos hsu] at ke
       exact iteT (ke _ s12)
      | true =>
       rw [if_neg (by rw [hsu];simp)] at ke
       refine iteF ?_
       obtain ⟨n,l,r,⟨dz,io⟩,_⟩:=ii
       obtain ⟨pa,ta,ra,bb,ts,rs,⟨dh,ho⟩,_⟩:=ih
       refine ⟨_,rfl,sa,_,dx,_,_,rfl,s12 _ _ hob,T.cl_Show,T.no_Show_minutes,rfl,_,rfl,x,_,dz,_,_,rfl,s12 _ _ io,T.cl_Item,T.no_Item_minutes,rfl,_,_,rfl,rfl,_,rfl,hs,_,dh,_,_,rfl,s12 _ _ ho,T.cl_House,T.no_House_limit,rfl,_,_,rfl,rfl,_,rfl,?_⟩
       refine ifB (fun y=>?_) (fun y=>?_)
       ·have y':(h.limit:Int) < (mi:Int) + (it.minutes:Int):=of_decide_eq_true y
        rw [if_pos (by omega)] at ke
        exact ke _ s12
       ·have y':¬ (h.limit:Int) < (mi:Int) + (it.minutes:Int):=of_decide_eq_false y
        rw [if_neg (by omega)] at ke
        exact ke _ s12
    ·rw [decide_eq_false h8]
     refine iteF ?_
     refine iteF ?_
     have hn:¬ (i < 8∧Vbcjaj.doneIn ⟨ac,be,se,none,wi,lo,mi⟩ i=true):=fun z=>h8 z.1
     have s1:=Same.refl H
     refine ⟨_,rfl,_,rfl,sa,_,dx,_,_,rfl,s1 _ _ hob,T.cl_Show,T.no_Show_beliefs,rfl,M,x,ba,it,be,rfl,ii.same s1,SqL.of (s1 _ _ hbe),gi.need.trans hbl.symm,small_le (by omega),W0.bf,gi.f1,fun H2 s2=>⟨_,rfl,?_⟩⟩
     have s12:=(s1).trans s2
     rw [if_neg hn] at ke
     cases hsu:Vbcjaj.sure be it with
     | false =>
      rw [if_pos hsu] at ke
      exact iteT (ke _ s12)
     | true =>
      rw [if_neg (by rw [hsu];simp)] at ke
      refine iteF ?_
      obtain ⟨n,l,r,⟨dz,io⟩,_⟩:=ii
      obtain ⟨pa,ta,ra,bb,ts,rs,⟨dh,ho⟩,_⟩:=ih
      refine ⟨_,rfl,sa,_,dx,_,_,rfl,s12 _ _ hob,T.cl_Show,T.no_Show_minutes,rfl,_,rfl,x,_,dz,_,_,rfl,s12 _ _ io,T.cl_Item,T.no_Item_minutes,rfl,_,_,rfl,rfl,_,rfl,hs,_,dh,_,_,rfl,s12 _ _ ho,T.cl_House,T.no_House_limit,rfl,_,_,rfl,rfl,_,rfl,?_⟩
      refine ifB (fun y=>?_) (fun y=>?_)
      ·have y':(h.limit:Int) < (mi:Int) + (it.minutes:Int):=of_decide_eq_true y
       rw [if_pos (by omega)] at ke
       exact ke _ s12
      ·have y':¬ (h.limit:Int) < (mi:Int) + (it.minutes:Int):=of_decide_eq_false y
       rw [if_neg (by omega)] at ke
       exact ke _ s12
end
section
variable {P:Program} {w:World} {K:PySem.W.Frag} {mg:Str→Option Value} {base:Heap} {t:Ad} {SA:SRel}
theorem scBegin:FnScope ["line","number","show","refusal"] ["line","number"] (defScope s_answer_begin):=⟨rfl,rfl,rfl,by decide +kernel,rfl,by decide +kernel,by decide +kernel⟩
theorem begin_ok {h:Vbcjaj.House} {g:Vbcjaj.Stage} {i:Nat} (e:begI h g i=0):g.doing=none∧∃ it,Vbcjaj.itemAt h i=some it∧¬ (i < 8∧Vbcjaj.doneIn g i=true)∧¬ (Vbcjaj.sure g.beliefs it=false)∧¬ h.limit < g.minutes + it.minutes:=by
 unfold begI at e
 cases hd:g.doing with
 | some d =>
  rw [hd,if_pos (show (some d).isSome=true from rfl)] at e
  exact absurd e (by decide)
 | none =>
  rw [hd,if_neg (by simp)] at e
  refine ⟨rfl,?_⟩
  cases hi:Vbcjaj.itemAt h i with
  | none =>
   rw [hi] at e
   exact absurd (show (-4:Int)=0 from e) (by decide)
  | some it =>
   rw [hi] at e
   dsimp only at e
   refine ⟨it,rfl,?_⟩
   by_cases h1:i < 8∧Vbcjaj.doneIn g i=true
   ·rw [if_pos h1] at e
    exact absurd e (by decide)
   rw [if_neg h1] at e
   by_cases h2:Vbcjaj.sure g.beliefs it=false
   ·rw [if_pos h2] at e
    exact absurd e (by decide)
   rw [if_neg h2] at e
   by_cases h3:h.limit < g.minutes + it.minutes
   ·rw [if_pos h3] at e
    exact absurd e (by decide)
   exact ⟨h1,h2,h3⟩
theorem begin_step {s:Vbcjaj.State} {g:Vbcjaj.Stage} {n:Nat} (hs:s.stage=some g) (hn:n≤13):(begI s.house g n≠0→Vbcjaj.step s (.begin_ (n:Int))=(s,[begI s.house g n])) ∧
  (begI s.house g n=0→Vbcjaj.step s (.begin_ (n:Int))=(⟨s.house,some { g with serial:=if n < 8 then g.serial + 1 else g.serial,doing:=some ⟨n,0,0,none,false⟩ }⟩,[if n < 8 then Vbcjaj.whole (g.serial + 1) else 0])):=by
 have e0:Vbcjaj.step s (.begin_ (n:Int))=if Vbcjaj.inside (n:Int) 0 13=false then Vbcjaj.no s (-1) else Vbcjaj.onStage s fun g=>if g.doing.isSome=true then Vbcjaj.no s (-5) else match Vbcjaj.itemAt s.house n with
   | none=>Vbcjaj.no s (-4)
   | some t=>if (n:Int) < 8∧Vbcjaj.doneIn g n=true then Vbcjaj.no s (-9) else if Vbcjaj.sure g.beliefs t=false then Vbcjaj.no s (-10) else if s.house.limit < g.minutes + t.minutes then Vbcjaj.no s (-6)
     else (Vbcjaj.set s { g with serial:=if (n:Int) < 8 then g.serial + 1 else g.serial,doing:=some ⟨n,0,0,none,false⟩ },[if (n:Int) < 8 then Vbcjaj.whole (if (n:Int) < 8 then g.serial + 1 else g.serial) else 0]):=rfl
 have hin:Vbcjaj.inside (n:Int) 0 13=true:=by unfold Vbcjaj.inside;simp;omega
 have e8:((n:Int) < 8)=(n < 8):=by apply propext;omega
 rw [hin,if_neg (by simp)] at e0
 unfold Vbcjaj.onStage at e0
 rw [hs] at e0
 dsimp only at e0
 simp only [e8] at e0
 unfold begI
 cases hd:g.doing with
 | some d =>
  rw [hd,if_pos (show (some d).isSome=true from rfl)] at e0
  rw [if_pos (show (some d).isSome=true from rfl)]
  exact ⟨fun _=>e0,fun z=>absurd z (by decide)⟩
 | none =>
  rw [hd,if_neg (by simp)] at e0
  rw [if_neg (by simp)]
  cases hi:Vbcjaj.itemAt s.house n with
  | none =>
   rw [hi] at e0
   exact ⟨fun _=>e0,fun z=>absurd (show (-4:Int)=0 from z) (by decide)⟩
  | some it =>
   rw [hi] at e0
   dsimp only at e0 ⊢
   by_cases h1:n < 8∧Vbcjaj.doneIn g n=true
   ·rw [if_pos h1] at e0 ⊢
    exact ⟨fun _=>e0,fun z=>absurd z (by decide)⟩
   rw [if_neg h1] at e0 ⊢
   by_cases h2:Vbcjaj.sure g.beliefs it=false
   ·rw [if_pos h2] at e0 ⊢
    exact ⟨fun _=>e0,fun z=>absurd z (by decide)⟩
   rw [if_neg h2] at e0 ⊢
   by_cases h3:s.house.limit < g.minutes + it.minutes
   ·rw [if_pos h3] at e0 ⊢
    exact ⟨fun _=>e0,fun z=>absurd z (by decide)⟩
   rw [if_neg h3] at e0 ⊢
   refine ⟨fun z=>absurd rfl z,fun _=>?_⟩
   rw [e0]
   by_cases h8:n < 8
   ·rw [if_pos h8,if_pos h8]
    rfl
   ·rw [if_neg h8,if_neg h8,if_neg h8]
    rfl
theorem ok_begin (T:Tx K mg t):FnOk P w K mg base CX0 4 t.f_answer_begin t.d_answer_begin ["line","number"] (spOne t .begin_):=by
 refine T.x_answer_begin.F.ok scBegin (fun vs H Q E h=>?_) (fun cdv A outer s H vs Q E hr h=>?_)
 ·obtain ⟨M,ln,s,v,rfl,_⟩:=h
  rfl
 ·obtain ⟨M,ln,st,v,rfl,LS,k⟩:=h
  refine ⟨_,pss_cons (ps_set (i:=2) scBegin.nd rfl (Or.inl rfl) (pe_fld (pv 0) rfl))
   (pss_cons (ps_if (pt_not (pt_val (pe_call (ok_within T) (hr.mono (by decide)) rfl T.x_within.m T.x_within.F.kp T.x_within.b .nil pass0 (pa_cons (pv 1) (pa_cons pe_int (pa_cons (pe_const rfl T.k_LAST_ITEM) pa_nil)))))) (pss_one (ps_ret (pe_lst (pa_cons (pe_const rfl T.k_OUT_OF_RANGE) pa_nil)))) pss_nil)
   (pss_cons (ps_if (pt_cmp (pc_isN (pv 2))) (pss_one (ps_ret (pe_lst (pa_cons (pe_const rfl T.k_SHOW_ON_OR_OFF) pa_nil)))) pss_nil)
   (pss_cons (ps_set (i:=3) scBegin.nd rfl (Or.inl rfl) (pe_call (ok_refB T) hr rfl T.x_refusal_of_begin.m T.x_refusal_of_begin.F.kp T.x_refusal_of_begin.b .nil pass0 (pa_cons (pe_fld (pv 0) rfl) (pa_cons (pv 2) (pa_cons (pv 1) pa_nil)))))
   (pss_cons (ps_if (pt_cmpR op_ne (pv 3) pe_int (nomark _)) (pss_one (ps_ret (pe_lst (pa_cons (pv 3) pa_nil)))) pss_nil)
   (pss_cons (ps_expr (pe_meth (pv 2) T.cl_Show T.m_Show_turn_to (ok_turn T) (hr.mono (by decide)) T.b_Show_turn_to .nil pass0 (pa_cons (pv 1) pa_nil)))
   (pss_cons (ps_if (pt_not (pt_val (pe_call (ok_isTrick T) (hr.mono (by decide)) rfl T.x_is_trick.m T.x_is_trick.F.kp T.x_is_trick.b .nil pass0 (pa_cons (pv 1) pa_nil)))) (pss_one (ps_ret (pe_lst (pa_cons pe_int pa_nil)))) pss_nil)
   (pss_cons (ps_fldaug (pv 2) pe_int in_add)
   (pss_one (ps_ret (pe_lst (pa_cons (pe_fld (pv 2) rfl) pa_nil))))))))))),?_⟩
  have LS0:=LS
  obtain ⟨dx,hs,vv,pa,ta,ra,ba,ts,rs,SM,rfl,L⟩:=LS
  refine ⟨_,rfl,ln,_,dx,_,_,rfl,L.ob,T.cl_Line,T.no_Line_show,rfl,?_⟩
  refine ⟨_,rfl,v,0,13,rfl,_,rfl,?_⟩
  have e1:Vbcjaj.inside v 0 13=inR v 0 13:=rfl
  cases c1:inR v 0 13 with
  | false =>
   refine iteT (bad1 LS0 k ?_ (Same.refl _))
   show (if Vbcjaj.inside v 0 13=false then Vbcjaj.no st (-1) else _)=_
   rw [e1,c1,if_pos rfl]
   rfl
  | true =>
   refine iteF ?_
   have v13:0≤v∧v≤13:=by unfold inR at c1;simpa using c1
   obtain ⟨n,rfl⟩:∃ n:Nat,v=(n:Int):=⟨v.toNat,by omega⟩
   refine ⟨_,rfl,_,rfl,?_⟩
   have hsh:=L.sh
   cases hst:st.stage with
   | none =>
    rw [hst] at hsh
    obtain ⟨rfl,rfl⟩:=hsh
    refine iteT (bad1 LS0 k ?_ (Same.refl _))
    show (if Vbcjaj.inside (n:Int) 0 13=false then Vbcjaj.no st (-1) else Vbcjaj.onStage st _)=_
    rw [e1,c1,if_neg (by simp)]
    unfold Vbcjaj.onStage
    rw [hst]
    rfl
   | some g =>
    rw [hst] at hsh
    obtain ⟨sa,rfl,dz,bl,aa,da,wa,ds,cs,rfl,X⟩:=hsh
    refine iteF ?_
    obtain ⟨st1,st2⟩:=begin_step hst (show n≤13 by omega)
    refine ⟨_,rfl,ln,_,dx,_,_,rfl,L.ob,T.cl_Line,T.no_Line_house,rfl,_,rfl,_,rfl,_,hs,sa,st.house,g,dz,bl,aa,da,wa,ds,cs,n,rfl,⟨pa,ta,ra,ba,ts,rs,L.house⟩,L.wf,X,fun H1 s1=>?_⟩
    refine ⟨_,rfl,rfl,_,rfl,?_⟩
    rw [ne0]
    by_cases z:begI st.house g n=0
    ·rw [decide_eq_false (fun q=>q z)]
     refine iteF ?_
     rw [st2 z] at k
     obtain ⟨hd,it,hi,h1,h2,h3⟩:=begin_ok z
     obtain ⟨⟨a1,a2,a3,a4⟩,⟨b1,b2,b3⟩,⟨c1,c2⟩,d1,cnd⟩:=nd_show L.nd
     have W0:=X.wf
     refine ⟨_,rfl,sa,dz,_,rfl,s1 _ _ X.ob,rfl,_,rfl,sa,dz,_,(n:Int),rfl,s1 _ _ X.ob,by show 10 < 1000;decide,by show 10 < 1000;decide,by show 10 < 1000;decide,by show 10 < 1000;decide,?_⟩
     have fr:∀ m∈cs,m∈cs∨H m=none:=fun m hm=>.inl hm
     have ndn:=nd_mk L.nd X.ob X.be X.dn X.wr cnd fr
     have wfn:∀ se,WfG st.house { g with serial:=se,doing:=some ⟨n,0,0,none,false⟩ }:=fun se=>⟨W0.al,W0.a6,W0.bl,W0.bf,W0.wl,W0.ll,W0.lm,fun d' hd'=>by
      cases hd'
      refine ⟨it,hi,by show g.minutes + it.minutes≤st.house.limit;omega,?_⟩
      show false=(decide (0 < it.wait) && (true && decide (it.wait≤0)))
      by_cases hw:it.wait=0
      ·rw [hw];rfl
      ·rw [decide_eq_false (show ¬ it.wait≤0 by omega)];simp⟩
     have mk:∀ (H2:Hp) (se:Nat),Chg (sa::bl::da::wa::cs) H H2→H2 sa=some (.ins t.c_Show dz (showG bl aa da wa { g with serial:=se,doing:=some ⟨n,0,0,none,false⟩ }))→(∀ b o,b≠sa→H b=some o→H2 b=some o) →
       SAc t (ln::hs::ta::ra::sa::bl::da::wa::cs) H2 sa st.house { g with serial:=se,doing:=some ⟨n,0,0,none,false⟩ } (sa::bl::da::wa::cs):=fun H2 se ch ob2 oth=>by
      obtain ⟨⟨ac',ma'⟩,de'⟩:=X.kept ch (th_sub fr)
      refine ⟨dz,bl,aa,da,wa,ds,cs,rfl,ob2,oth _ _ a1.symm X.be,ac',ma',oth _ _ a2.symm X.dn,X.dl,de',oth _ _ a3.symm X.wr,X.wn,fun i c y h1 h2=>?_,wfn se⟩
      obtain ⟨dc,q⟩:=X.wc i c y h1 h2
      exact ⟨dc,oth _ _ (ne_in a4 (List.mem_of_getElem? h1)) q⟩
     have ch2:Chg (sa::bl::da::wa::cs) H (upd H1 sa (.ins t.c_Show dz (turnF (n:Int) (showG bl aa da wa g)))):=(Chg.same s1).trans (Chg.upd (by simp))
     have ob2:upd H1 sa (.ins t.c_Show dz (turnF (n:Int) (showG bl aa da wa g))) sa=some (.ins t.c_Show dz (showG bl aa da wa { g with serial:=g.serial,doing:=some ⟨n,0,0,none,false⟩ })):=by rw [upd_same];rfl
     have oth2:∀ b o,b≠sa→H b=some o→upd H1 sa (.ins t.c_Show dz (turnF (n:Int) (showG bl aa da wa g))) b=some o:=fun b o hb q=>by rw [upd_ne hb];exact s1 _ _ q
     generalize upd H1 sa (.ins t.c_Show dz (turnF (n:Int) (showG bl aa da wa g)))=H2 at ch2 ob2 oth2 ⊢
     refine ⟨_,rfl,n,rfl,_,rfl,?_⟩
     by_cases h8:n < 8
     ·rw [decide_eq_true h8]
      refine iteF ?_
      rw [if_pos h8,if_pos h8] at k
      refine ⟨_,rfl,sa,_,dz,_,_,rfl,ob2,T.cl_Show,T.no_Show_serial,rfl,_,_,rfl,rfl,dz,_,ob2,by show 10 < 1000;decide,?_⟩
      refine ⟨_,rfl,sa,_,dz,_,_,rfl,upd_same,T.cl_Show,T.no_Show_serial,rfl,by show 1≤sizeLine;decide,?_⟩
      have ch3:=ch2.trans (Chg.upd (H:=H2) (m:=sa) (o:=HO.ins t.c_Show dz (putF "serial" (.int ((g.serial:Int) + 1)) (showG bl aa da wa { g with serial:=g.serial,doing:=some ⟨n,0,0,none,false⟩ }))) (by simp))
      exact fin_show L k ch3 (th_sub fr) ndn (mk _ (g.serial + 1) ch3 (by rw [upd_same];rfl) (fun b o hb q=>by rw [upd_ne hb];exact oth2 b o hb q)) _ rfl
     ·rw [decide_eq_false h8]
      rw [if_neg h8,if_neg h8] at k
      exact iteT ⟨by show 1≤sizeLine;decide,fin_show L k ch2 (th_sub fr) ndn (mk _ g.serial ch2 ob2 oth2) _ rfl⟩
    ·rw [decide_eq_true z]
     exact iteT (bad2 rfl LS0 k (st1 z) s1)
end
section
variable {P:Program} {w:World} {K:PySem.W.Frag} {mg:Str→Option Value} {base:Heap} {t:Ad} {SA:SRel}
def spRow (t:Ad) (mk:List Int→Vbcjaj.Call):Sp:=fun vs H Q _=>∃ (M:List Addr) (ln l:Addr) (s:Vbcjaj.State) (ns:List Int),vs=[.ref ln,.ref l]∧LineSt t (SAc t) M H ln s∧H l=some (.lst (ns.map V.int))∧l∉M∧ns.length≤1000∧newSt t (SAc t) M H ln (Vbcjaj.step s (mk ns)) Q
theorem conds_good {ps:List Nat} {ns:List Int} (h:condsB ps ns=true) (hp:∀ p∈ps,2≤p∧p≤6):ns.length=ps.length∧(∀ x∈ns,0≤x)∧∀ c∈Vbcjaj.nats ns,c < 6:=by
 unfold condsB at h
 rw [Bool.and_eq_true] at h
 obtain ⟨h1,h2⟩:=h
 have hl:ns.length=ps.length:=by simpa using h1
 have all:∀ (i:Nat) x,ns[i]?=some x→0≤x∧x < 6:=fun i x hx=>by
  have hi:i < ps.length:=by rw [← hl];exact (List.getElem?_eq_some_iff.mp hx).1
  have hz:(ns.zip ps)[i]?=some (x,ps[i]):=by rw [List.getElem?_zip_eq_some];exact ⟨hx,List.getElem?_eq_getElem hi⟩
  have q:=List.all_eq_true.mp h2 _ (List.mem_of_getElem? hz)
  have q6:=hp _ (List.getElem_mem hi)
  unfold Vbcjaj.inside Vbcjaj.whole at q
  simp only [Bool.and_eq_true,decide_eq_true_eq] at q
  omega
 have mem:∀ x∈ns,0≤x∧x < 6:=fun x hx=>by
  obtain ⟨i,hi⟩:=List.mem_iff_getElem?.mp hx
  exact all i x hi
 refine ⟨hl,fun x hx=>(mem x hx).1,fun c hc=>?_⟩
 obtain ⟨x,hx,rfl⟩:=List.mem_map.mp hc
 have:=mem x hx
 omega
theorem all_swap {α β:Type} (f:α→β→Bool):∀ (l:List α) (m:List β),((l.zip m).all fun x=>f x.1 x.2)=(m.zip l).all fun x=>f x.2 x.1
 | [],m=>by cases m <;> rfl
 | _::_,[]=>rfl
 | a::l,b::m=>by rw [List.zip_cons_cons,List.zip_cons_cons,List.all_cons,List.all_cons,all_swap f l m]
theorem amid_eq {b l:List Nat} (hl:l.length=b.length) (h6:∀ c∈l,c < 6):Vbcjaj.amid b l=(b.zip l).all fun x=>Vbcjaj.bitOf x.1 x.2:=by
 unfold Vbcjaj.amid
 rw [hl,beq_self_eq_true,Bool.true_and,all_swap (fun s c=>Vbcjaj.bitOf s c) b l]
 have:∀ x∈l.zip b,(decide (x.1 < 6) && Vbcjaj.bitOf x.2 x.1)=Vbcjaj.bitOf x.2 x.1:=fun x hx=>by
  rw [decide_eq_true (h6 x.1 (List.of_mem_zip hx).1),Bool.true_and]
 rw [Bool.eq_iff_iff,List.all_eq_true,List.all_eq_true]
 exact ⟨fun q x hx=>by rw [← this x hx];exact q x hx,fun q x hx=>by rw [this x hx];exact q x hx⟩
abbrev nmStart:List Str:=["line","actual","house","belief","condition"]
theorem scStart:FnScope nmStart ["line","actual"] (defScope s_answer_start):=⟨rfl,rfl,rfl,by decide +kernel,rfl,by decide +kernel,by decide +kernel⟩
theorem ok_start (T:Tx K mg t):FnOk P w K mg base CX0 4 t.f_answer_start t.d_answer_start ["line","actual"] (spRow t .start):=by
 refine T.x_answer_start.F.ok scStart (fun vs H Q E h=>?_) (fun cdv A outer s H vs Q E hr h=>?_)
 ·obtain ⟨M,ln,l,s,ns,rfl,_⟩:=h
  rfl
 ·obtain ⟨M,ln,l,st,ns,rfl,LS,hl,lM,hz,k⟩:=h
  refine ⟨_,pss_cons (ps_set (i:=2) scStart.nd rfl (Or.inl rfl) (pe_fld (pv 0) rfl))
   (pss_cons (ps_if (pt_not (pt_val (pe_call (ok_areConditions T) (hr.mono (by decide)) rfl T.x_are_conditions.m T.x_are_conditions.F.kp T.x_are_conditions.b .nil pass0 (pa_cons (pv 1) (pa_cons (pe_fld (pv 2) rfl) pa_nil))))) (pss_one (ps_ret (pe_lst (pa_cons (pe_const rfl T.k_WRONG_LIST) pa_nil)))) pss_nil)
   (pss_cons (ps_if (pt_not (pt_val (pe_callB (cr_all rfl) rfl T.n_all boot_all (pa_cons (pe_lc (own:=[("belief",3),("condition",4)]) (g:=gTup K 2 (gCons (gName 3) (gCons (gName 4) gNil))) rfl scStart.nd (pi_zip rfl T.n_zip (pa_cons (pe_fld (pv 2) rfl) (pa_cons (pv 1) pa_nil))) (blkOk_by (show blkC nmStart (defScope s_answer_start) _ _=true by decide +kernel))
    (fun _ _ _ _ _=>pg_pair (i:=3) (j:=4) rfl scStart.nd rfl (Or.inl rfl) rfl (Or.inl rfl) (Or.inr rfl) (Or.inr rfl)) (fun _ _ _ _ _=>pts_nil)
    (fun _ _ _ _ _=>pe_call (ok_holds T) (hr.mono (by decide)) rfl T.x_holds.m T.x_holds.F.kp T.x_holds.b .nil pass0 (pa_cons (pv 3) (pa_cons (pv 4) pa_nil)))) pa_nil)))) (pss_one (ps_ret (pe_lst (pa_cons (pe_const rfl T.k_CANNOT_BE) pa_nil)))) pss_nil)
   (pss_cons (ps_fld (pv 0) (pe_make T.mk_Show (ok_showInit T) hr rfl T.mg_Show T.b_Show_init .nil pass0 (pa_cons (pe_callTy call_list_of rfl T.n_list boot_list (pa_cons (pe_fld (pv 2) rfl) pa_nil)) (pa_cons (pv 1) pa_nil))) rfl)
   (pss_one (ps_ret (pe_lst (pa_cons pe_int pa_nil))))))),?_⟩
  have LS0:=LS
  obtain ⟨dx,hs,vv,pa,ta,ra,ba,ts,rs,SM,rfl,L⟩:=LS
  have estep:Vbcjaj.step st (.start ns)=if condsB st.house.props ns=false then Vbcjaj.no st (-2) else if Vbcjaj.amid st.house.begin_ (Vbcjaj.nats ns)=false then Vbcjaj.no st (-8) else (Vbcjaj.set st ⟨Vbcjaj.nats ns,st.house.begin_,0,none,[],[],0⟩,[0]):=rfl
  obtain ⟨⟨dh,h0⟩,h1,h2,h3,h4,tr,rr,mp,mb⟩:=id L.house
  refine ⟨_,rfl,ln,_,dx,_,_,rfl,L.ob,T.cl_Line,T.no_Line_house,rfl,?_⟩
  refine ⟨_,rfl,_,rfl,hs,_,dh,_,_,rfl,h0,T.cl_House,T.no_House_props,rfl,l,pa,ns,st.house.props,rfl,SqL.of hl,SqL.of h1,small_le hz,fun H1 s1=>⟨_,rfl,?_⟩⟩
  cases c1:condsB st.house.props ns with
  | false=>exact iteT (bad1 LS0 k (by rw [estep,c1,if_pos rfl];rfl) s1)
  | true =>
   rw [c1,if_neg (by simp)] at estep
   refine iteF ?_
   obtain ⟨g1,g2,g3⟩:=conds_good c1 L.wf.pc
   have nl:(Vbcjaj.nats ns).length=st.house.begin_.length:=by rw [L.wf.bl,← g1];exact List.length_map _
   have eV:=ints_nats g2
   rw [eV] at hl
   have hpl:=L.wf.pl
   have hbl:=L.wf.bl
   refine ⟨_,rfl,hs,_,dh,_,_,rfl,s1 _ _ h0,T.cl_House,T.no_House_beliefs,rfl,_,rfl,ba,l,_,_,rfl,SqL.of (s1 _ _ h4),SqL.of (s1 _ _ hl),fun D nD=>?_⟩
   refine lcz_map (xs:=nv st.house.begin_) (ys:=nv (Vbcjaj.nats ns)) (fun i=>.bl (Vbcjaj.bitOf (st.house.begin_.getD i 0) ((Vbcjaj.nats ns).getD i 0))) (by rw [List.length_map];exact small_le (by omega)) (by rw [List.length_map,List.length_map,nl]) nD (SqL.of (s1 _ _ h4)) (SqL.of (s1 _ _ hl)) (fun i x y U H' hx hy sm hU R hR=>?_) (fun H2 s2 e=>?_)
   ·obtain ⟨b,hb,rfl⟩:=get_map hx
    obtain ⟨c,hc,rfl⟩:=get_map hy
    have eb:st.house.begin_.getD i 0=b:=by rw [List.getD_eq_getElem?_getD,hb];rfl
    have ec:(Vbcjaj.nats ns).getD i 0=c:=by rw [List.getD_eq_getElem?_getD,hc];rfl
    rw [eb,ec] at hR
    refine ⟨U,_,rfl,SqT.of hU,rfl,_,_,rfl,_,_,rfl,rfl,rfl,?_⟩
    have c6:=g3 c (List.mem_of_getElem? hc)
    exact ⟨_,rfl,_,rfl,b,c,rfl,L.wf.bf b (List.mem_of_getElem? hb),by omega,hR _ (Same.refl _)⟩
   ·rw [List.length_map,range_zip st.house.begin_ (Vbcjaj.nats ns) _ (fun b c=>V.bl (Vbcjaj.bitOf b c)) nl (fun i x y hx hy=>by rw [List.getD_eq_getElem?_getD,hx,List.getD_eq_getElem?_getD,hy];rfl)] at e
    refine ⟨D,(st.house.begin_.zip (Vbcjaj.nats ns)).map fun x=>Vbcjaj.bitOf x.1 x.2,rfl,SqL.of (by rw [e,List.map_map];rfl),?_⟩
    rw [List.all_map]
    have s12:=s1.trans s2
    have ea:=amid_eq nl g3
    refine ⟨_,rfl,?_⟩
    show if (!((st.house.begin_.zip (Vbcjaj.nats ns)).all fun x=>Vbcjaj.bitOf x.1 x.2))=true then _ else _
    rw [← ea]
    cases c2:Vbcjaj.amid st.house.begin_ (Vbcjaj.nats ns) with
    | false=>exact iteT (bad1 LS0 k (by rw [estep,c2,if_pos rfl];rfl) s12)
    | true =>
     rw [c2,if_neg (by simp)] at estep
     rw [estep] at k
     refine iteF ?_
     have h0':=s12 _ _ h0
     refine ⟨_,rfl,hs,_,dh,_,_,rfl,h0',T.cl_House,T.no_House_beliefs,rfl,ba,_,rfl,.inl (SqL.of (s12 _ _ h4)),fun B nB=>?_⟩
     have s3:=s12.trans (Same.new (o:=HO.lst (nv st.house.begin_)) nB)
     have hB3:upd H2 B (.lst (nv st.house.begin_)) B=some (.lst (nv st.house.begin_)):=upd_same
     have nBH:H B=none:=s12.free nB
     generalize upd H2 B (.lst (nv st.house.begin_))=H3 at s3 hB3 ⊢
     refine ⟨_,rfl,fun x dx' nx nd ne=>?_⟩
     have s4:Same H3 (upd (upd H3 dx' (.own x)) x (.ins t.c_Show dx' [])):=fun b o q=>by rw [upd_ne (ne_of_none q nx),upd_ne (ne_of_none q nd)];exact q
     refine ⟨x,dx',B,l,rfl,upd_same,fun H4 da wa NS=>⟨rfl,?_⟩⟩
     have k4:Same H3 H4:=fun b o q=>NS.kp b o (s4 b o q) (ne_of_none q nx)
     have sH4:=s3.trans k4
     refine ⟨_,rfl,ln,_,dx,_,rfl,sH4 _ _ L.ob,T.cl_Line,T.no_Line_show,by show 2 < 1000;decide,?_⟩
     refine ⟨by show 1≤sizeLine;decide,?_⟩
     have nxH:H x=none:=s3.free nx
     have ndaH:H da=none:=s3.free (s4.free NS.nd)
     have nwaH:H wa=none:=s3.free (s4.free NS.nw)
     have xB:x≠B:=fun z=>by rw [z,hB3] at nx;cases nx
     have daB:da≠B:=fun z=>by have q:=s4.free NS.nd;rw [z,hB3] at q;cases q
     have waB:wa≠B:=fun z=>by have q:=s4.free NS.nw;rw [z,hB3] at q;cases q
     have xda:x≠da:=fun z=>by have q:=NS.nd;rw [← z,upd_same] at q;cases q
     have xwa:x≠wa:=fun z=>by have q:=NS.nw;rw [← z,upd_same] at q;cases q
     have xl:x≠ln:=fun z=>by rw [z,L.ob] at nxH;cases nxH
     have Bl:B≠ln:=fun z=>by rw [z,L.ob] at nBH;cases nBH
     have dl:da≠ln:=fun z=>by rw [z,L.ob] at ndaH;cases ndaH
     have wl:wa≠ln:=fun z=>by rw [z,L.ob] at nwaH;cases nwaH
     have lln:l≠ln:=fun z=>lM (by rw [z];exact List.mem_cons_self)
     have th:∀ m∈[x,B,da,wa],m∈SM∨H m=none:=fun m hm=>by
      simp only [List.mem_cons,List.not_mem_nil,or_false] at hm
      rcases hm with rfl | rfl | rfl | rfl
      ·exact .inr nxH
      ·exact .inr nBH
      ·exact .inr ndaH
      ·exact .inr nwaH
     have lne:∀ m,H m=none→l≠m:=fun m hm z=>by rw [← z,hl] at hm;cases hm
     have lMn:l∉[ln,hs,ta,ra,x,B,da,wa]:=fun z=>by
      simp only [List.mem_cons,not_or] at lM
      simp only [List.mem_cons,List.not_mem_nil,or_false] at z
      rcases z with z | z | z | z | z | z | z | z
      ·exact lM.1 z
      ·exact lM.2.1 z
      ·exact lM.2.2.1 z
      ·exact lM.2.2.2.1 z
      ·exact lne _ nxH z
      ·exact lne _ nBH z
      ·exact lne _ ndaH z
      ·exact lne _ nwaH z
     have LS':=L.shift (H':=upd H4 ln (.ins t.c_Line dx (putF "show" (.ref x) (lineF hs vv)))) (SM':=[x,B,da,wa]) (sa:=x) (g':=⟨Vbcjaj.nats ns,st.house.begin_,0,none,[],[],0⟩) (fun b o q _ hb=>by rw [upd_ne hb];exact sH4 _ _ q) (by rw [upd_same];rfl) th
      (by simp only [List.nodup_cons,List.mem_cons,List.not_mem_nil,or_false,not_or,not_false_eq_true,List.nodup_nil,and_true];exact ⟨⟨xB,xda,xwa⟩,⟨daB.symm,waB.symm⟩,NS.dw⟩)
      ⟨dx',B,l,da,wa,[],[],rfl,by rw [upd_ne xl];exact NS.ob,by rw [upd_ne Bl];exact k4 _ _ hB3,by rw [upd_ne lln];exact sH4 _ _ hl,lMn,by rw [upd_ne dl];exact NS.hd,rfl,fun i d e h1=>by simp at h1,by rw [upd_ne wl];exact NS.hw,rfl,fun i d e h1=>by simp at h1,
       ⟨by show (Vbcjaj.nats ns).length=_;rw [nl,hbl],g3,hbl,L.wf.bf,Nat.zero_le _,Nat.zero_le _,Nat.zero_le _,fun d hd=>nomatch hd⟩⟩
     refine newSt.fin (SAc_stable t) k LS' (fun b o q hb=>?_) (fun m hm=>?_) (fun m hm=>?_) _ rfl
     ·rw [upd_ne (fun z=>hb (by rw [z];exact List.mem_cons_self))]
      exact sH4 _ _ q
     ·by_cases z:m=ln
      ·exact ⟨_,by rw [z,upd_same]⟩
      ·obtain ⟨o,q⟩:=LS0.there (SAc_stable t) m hm
       exact ⟨o,by rw [upd_ne z];exact sH4 _ _ q⟩
     ·simp only [List.mem_cons,List.not_mem_nil,or_false] at hm
      rcases hm with z | z | z | z | z
      ·exact .inl (by simp [z])
      ·exact .inl (by simp [z])
      ·exact .inl (by simp [z])
      ·exact .inl (by simp [z])
      ·rcases th m (by simp only [List.mem_cons,List.not_mem_nil,or_false];exact z) with q | q
       ·exact .inl (by simp [q])
       ·exact .inr q
end
def canF (a b c:Nat):Bool:=if a=0 then b == c else Vbcjaj.bitOf a c
theorem canB_eq {g:Vbcjaj.Stage} {l new:List Nat} (h1:l.length=new.length) (h2:g.actual.length=new.length) (h6:∀ c∈new,c < 6):Vbcjaj.canBe g l new=(List.range l.length).all fun i=>canF (l.getD i 0) (g.actual.getD i 0) (new.getD i 0):=by
 unfold Vbcjaj.canBe
 rw [← h1,beq_self_eq_true,Bool.true_and,Bool.eq_iff_iff,List.all_eq_true,List.all_eq_true]
 have sym:∀ a b:Nat,(a == b)=(b == a):=fun a b=>by rw [Bool.eq_iff_iff];simp;exact ⟨Eq.symm,Eq.symm⟩
 have one:∀ (i a b c:Nat),l[i]?=some a→g.actual[i]?=some b→new[i]?=some c→(decide (c < 6) && (if a=0 then c == b else Vbcjaj.bitOf a c))=canF (l.getD i 0) (g.actual.getD i 0) (new.getD i 0):=fun i a b c q1 q2 q3=>by
  rw [List.getD_eq_getElem?_getD,List.getD_eq_getElem?_getD,List.getD_eq_getElem?_getD,q1,q2,q3,decide_eq_true (h6 c (List.mem_of_getElem? q3)),Bool.true_and,sym c b]
  rfl
 constructor
 ·intro q i hi
  have hi':i < l.length:=List.mem_range.mp hi
  have q1:l[i]?=some l[i]:=List.getElem?_eq_getElem hi'
  have q2:g.actual[i]?=some (g.actual[i]'(by omega)):=List.getElem?_eq_getElem (by omega)
  have q3:new[i]?=some (new[i]'(by omega)):=List.getElem?_eq_getElem (by omega)
  have hz:(new.zip (l.zip g.actual))[i]?=some (new[i]'(by omega),l[i],g.actual[i]'(by omega)):=by
   rw [List.getElem?_zip_eq_some]
   exact ⟨q3,by rw [List.getElem?_zip_eq_some];exact ⟨q1,q2⟩⟩
  rw [← one i _ _ _ q1 q2 q3]
  exact q _ (List.mem_of_getElem? hz)
 ·intro q x hx
  obtain ⟨i,hi⟩:=List.mem_iff_getElem?.mp hx
  rw [List.getElem?_zip_eq_some] at hi
  obtain ⟨q3,hi⟩:=hi
  rw [List.getElem?_zip_eq_some] at hi
  obtain ⟨q1,q2⟩:=hi
  have e:=one i _ _ _ q1 q2 q3
  rw [e]
  exact q i (List.mem_range.mpr (List.getElem?_eq_some_iff.mp q1).1)
section
variable {P:Program} {w:World} {K:PySem.W.Frag} {mg:Str→Option Value} {base:Heap} {t:Ad} {SA:SRel}
def spCan (K:PySem.W.Frag):Sp:=fun vs H Q _=>∃ (a b c:Addr) (ls bs ns:List Nat),vs=[.ref a,.ref b,.ref c]∧H a=some (.lst (nv ls))∧H b=some (.lst (nv bs))∧H c=some (.lst (nv ns))∧bs.length=ls.length∧ns.length=ls.length∧ls.length≤1000∧Few ls∧(∀ c∈ns,c < 6)∧∀ H',Same H H'→Q (.bl ((List.range ls.length).all fun i=>canF (ls.getD i 0) (bs.getD i 0) (ns.getD i 0))) H'
abbrev nmCan:List Str:=["leave","before","actual","left","was","now"]
theorem scCan:FnScope nmCan ["leave","before","actual"] (defScope s_can_be_left):=⟨rfl,rfl,rfl,by decide +kernel,rfl,by decide +kernel,by decide +kernel⟩
theorem ok_can (T:Tx K mg t):FnOk P w K mg base CX0 2 t.f_can_be_left t.d_can_be_left ["leave","before","actual"] (spCan K):=by
 refine T.x_can_be_left.F.ok scCan (fun vs H Q E h=>?_) (fun cdv A outer s H vs Q E hr h=>?_)
 ·obtain ⟨a,b,c,ls,bs,ns,rfl,_⟩:=h
  rfl
 ·obtain ⟨a,b,c,ls,bs,ns,rfl,ha,hb,hc,e1,e2,hz,fl,h6,k⟩:=h
  refine ⟨_,pss_one (ps_ret (pe_callB (cr_all rfl) rfl T.n_all boot_all (pa_cons (pe_lc (own:=[("left",3),("was",4),("now",5)]) (g:=gTup K 3 (gCons (gName 3) (gCons (gName 4) (gCons (gName 5) gNil)))) rfl scCan.nd (pi_zip3 rfl T.n_zip (pa_cons (pv 0) (pa_cons (pv 1) (pa_cons (pv 2) pa_nil)))) (blkOk_by (show blkC nmCan (defScope s_can_be_left) _ _=true by decide +kernel))
    (fun _ _ _ _ _=>pg_tri (i:=3) (j:=4) (l:=5) rfl scCan.nd rfl (Or.inl rfl) rfl (Or.inl rfl) rfl (Or.inl rfl) (Or.inr rfl) (Or.inr rfl) (Or.inr rfl)) (fun _ _ _ _ _=>pts_nil)
    (fun _ _ _ _ _=>pe_ifExp (pt_cmpR op_eq (pv 3) pe_int (nomark _)) (pe_cmpR op_eq (pv 4) (pv 5) (nomark _)) (pe_call (ok_holds T) hr rfl T.x_holds.m T.x_holds.F.kp T.x_holds.b .nil pass0 (pa_cons (pv 3) (pa_cons (pv 5) pa_nil))))) pa_nil))),?_⟩
  refine ⟨_,rfl,_,rfl,_,rfl,a,b,c,_,_,_,rfl,SqL.of ha,SqL.of hb,SqL.of hc,fun D nD=>?_⟩
  refine lcz3_map (xs:=nv ls) (ys:=nv bs) (zs:=nv ns) (fun i=>.bl (canF (ls.getD i 0) (bs.getD i 0) (ns.getD i 0))) (by rw [List.length_map];exact small_le hz) (by rw [List.length_map,List.length_map,e1]) (by rw [List.length_map,List.length_map,e2]) nD (SqL.of ha) (SqL.of hb) (SqL.of hc) (fun i x y z U H' hx hy hv sm hU R hR=>?_) (fun H2 s2 e=>?_)
  ·obtain ⟨p,hp,rfl⟩:=get_map hx
   obtain ⟨q,hq,rfl⟩:=get_map hy
   obtain ⟨r,hr',rfl⟩:=get_map hv
   rw [List.getD_eq_getElem?_getD,List.getD_eq_getElem?_getD,List.getD_eq_getElem?_getD,hp,hq,hr'] at hR
   have hR':∀ H3,Same H' H3→R (.bl (canF p q r)) H3:=hR
   refine ⟨U,_,rfl,SqT.of hU,rfl,_,_,rfl,_,_,rfl,_,_,rfl,rfl,rfl,?_⟩
   refine ⟨_,rfl,rfl,_,rfl,?_⟩
   show if decide (V.int ((p:Nat):Int)=V.int ((0:Nat):Int))=true then _ else _
   rw [dec_int_eq]
   unfold canF at hR'
   by_cases p0:p=0
   ·rw [decide_eq_true p0]
    rw [if_pos p0] at hR'
    refine iteT ⟨_,rfl,_,rfl,rfl,?_⟩
    rw [dec_int_eq]
    have eb:(q == r)=decide (q=r):=by
     by_cases z:q=r
     ·rw [z];simp
     ·rw [decide_eq_false z];simpa using z
    rw [eb] at hR'
    exact hR' _ (Same.refl _)
   ·rw [decide_eq_false p0]
    rw [if_neg p0] at hR'
    have:=h6 r (List.mem_of_getElem? hr')
    exact iteF ⟨_,rfl,_,rfl,p,r,rfl,fl p (List.mem_of_getElem? hp),by omega,hR' _ (Same.refl _)⟩
  ·rw [List.length_map] at e
   refine ⟨D,(List.range ls.length).map fun i=>canF (ls.getD i 0) (bs.getD i 0) (ns.getD i 0),rfl,SqL.of (by rw [e,List.map_map];rfl),?_⟩
   rw [List.all_map]
   exact k _ s2
theorem scClose:FnScope ["line","count"] ["line"] (defScope s_answer_close):=⟨rfl,rfl,rfl,by decide +kernel,rfl,by decide +kernel,by decide +kernel⟩
theorem ok_close (T:Tx K mg t):FnOk P w K mg base CX0 1 t.f_answer_close t.d_answer_close ["line"] (spNon t .close):=by
 refine T.x_answer_close.F.ok scClose (fun vs H Q E h=>?_) (fun cdv A outer s H vs Q E hr h=>?_)
 ·obtain ⟨M,ln,s,rfl,_⟩:=h
  rfl
 ·obtain ⟨M,ln,st,rfl,LS,k⟩:=h
  refine ⟨_,pss_cons (ps_if (pt_cmp (pc_isN (pe_fld (pv 0) rfl))) (pss_one (ps_ret (pe_lst (pa_cons (pe_const rfl T.k_SHOW_ON_OR_OFF) pa_nil)))) pss_nil)
   (pss_cons (ps_set (i:=1) scClose.nd rfl (Or.inl rfl) (pe_callB call_len_seq rfl T.n_len PySem.boot_len (pa_cons (pe_fld (pe_fld (pv 0) rfl) rfl) pa_nil)))
   (pss_cons (ps_fld (pv 0) pe_non rfl)
   (pss_one (ps_ret (pe_lst (pa_cons (pv 1) pa_nil)))))),?_⟩
  have LS0:=LS
  obtain ⟨dx,hs,vv,pa,ta,ra,ba,ts,rs,SM,rfl,L⟩:=LS
  have estep:Vbcjaj.step st .close=Vbcjaj.onStage st fun g=>({ st with stage:=none },[Vbcjaj.whole g.log.length]):=rfl
  unfold Vbcjaj.onStage at estep
  refine ⟨_,rfl,ln,_,dx,_,_,rfl,L.ob,T.cl_Line,T.no_Line_show,rfl,_,rfl,?_⟩
  have hsh:=L.sh
  cases hst:st.stage with
  | none =>
   rw [hst] at hsh estep
   obtain ⟨rfl,rfl⟩:=hsh
   exact iteT (bad1 LS0 k estep (Same.refl _))
  | some g =>
   rw [hst] at hsh estep
   obtain ⟨sa,rfl,dz,bl,aa,da,wa,ds,cs,rfl,X⟩:=hsh
   dsimp only at estep
   rw [estep] at k
   refine iteF ?_
   refine ⟨_,rfl,ln,_,dx,_,_,rfl,L.ob,T.cl_Line,T.no_Line_show,rfl,sa,_,dz,_,_,rfl,X.ob,T.cl_Show,T.no_Show_done,rfl,da,_,rfl,.inl (SqL.of X.dn),?_⟩
   refine ⟨_,rfl,ln,_,dx,_,rfl,L.ob,T.cl_Line,T.no_Line_show,by show 2 < 1000;decide,?_⟩
   refine ⟨_,rfl,by show 1≤sizeLine;decide,?_⟩
   have nd0:=L.nd
   simp only [List.nodup_cons,List.mem_cons,not_or] at nd0
   obtain ⟨⟨l1,l2,l3,_⟩,⟨l4,l5,_⟩,⟨l6,_⟩,_⟩:=nd0
   have fr:∀ m∈[ln,hs,ta,ra],m∈ln::hs::ta::ra::sa::bl::da::wa::cs∨H m=none:=fun m hm=>by
    simp only [List.mem_cons,List.not_mem_nil,or_false] at hm
    rcases hm with z | z | z | z
    ·exact .inl (by simp [z])
    ·exact .inl (by simp [z])
    ·exact .inl (by simp [z])
    ·exact .inl (by simp [z])
   have kp:∀ b o,H b=some o→b∉ln::hs::ta::ra::sa::bl::da::wa::cs→upd H ln (.ins t.c_Line dx (putF "show" .non (lineF hs (.ref sa)))) b=some o:=fun b o q hb=>by
    rw [upd_ne (fun z=>hb (by simp [z]))]
    exact q
   refine newSt.fin (SAc_stable t) (M2:=[ln,hs,ta,ra]) k ⟨dx,hs,.non,pa,ta,ra,ba,ts,rs,[],rfl,by rw [upd_same];rfl,L.house.step kp fr (fun o q=>by rw [upd_ne (Ne.symm l1)];exact q) (fun o q=>by rw [upd_ne (Ne.symm l2)];exact q) (fun o q=>by rw [upd_ne (Ne.symm l3)];exact q),L.wf,?_,rfl,rfl⟩ kp (fun m hm=>?_) fr _ ?_
   ·simp only [List.nodup_cons,List.mem_cons,List.not_mem_nil,or_false,not_or,not_false_eq_true,List.nodup_nil,and_true]
    exact ⟨⟨l1,l2,l3⟩,⟨l4,l5⟩,l6⟩
   ·by_cases z:m=ln
    ·exact ⟨_,by rw [z,upd_same]⟩
    ·obtain ⟨o,q⟩:=LS0.there (SAc_stable t) m hm
     exact ⟨o,by rw [upd_ne z];exact q⟩
   ·rw [List.length_map,X.dl]
    rfl
end
section
variable {P:Program} {w:World} {K:PySem.W.Frag} {mg:Str→Option Value} {base:Heap} {t:Ad} {SA:SRel}
theorem done_made {H:Hp} {p dx:Addr} {x:Vbcjaj.Entry} (np:H p=none) (nd:H dx=none) (ne:dx≠p):Same H (upd (upd (upd H dx (.own p)) p (.ins t.c_Done dx [])) p (.ins t.c_Done dx (doneF x)))∧upd (upd (upd H dx (.own p)) p (.ins t.c_Done dx [])) p (.ins t.c_Done dx (doneF x)) p=some (.ins t.c_Done dx (doneF x)) :=
 ⟨fun c u e=>by rw [upd_ne (ne_of_none e np),upd_ne (ne_of_none e np),upd_ne (ne_of_none e nd)];exact e,upd_same⟩
theorem way_len {n:Nat} {d:Vbcjaj.Doing} {it:Vbcjaj.Item} (gi:GoodItem n it) (hre:d.rescued=(decide (0 < it.wait) && (d.value.isNone && decide (it.wait≤d.ticks)))):(wayOf d it).length=n∧Few (wayOf d it):=by
 unfold wayOf
 cases h:d.rescued with
 | true =>
  rw [if_pos rfl]
  rw [h] at hre
  have:0 < it.wait:=by
   have q:=hre.symm
   simp only [Bool.and_eq_true,decide_eq_true_eq] at q
   exact q.1
  exact ⟨gi.rescue (by omega),gi.f3⟩
 | false =>
  rw [if_neg (by simp)]
  exact ⟨gi.leave,gi.f2⟩
abbrev nmFinish:List Str:=["line","actual","house","show","refusal","leave","rescued"]
theorem scFinish:FnScope nmFinish ["line","actual"] (defScope s_answer_finish):=⟨rfl,rfl,rfl,by decide +kernel,rfl,by decide +kernel,by decide +kernel⟩
theorem ok_finish (T:Tx K mg t):FnOk P w K mg base CX0 6 t.f_answer_finish t.d_answer_finish ["line","actual"] (spRow t .finish):=by
 refine T.x_answer_finish.F.ok scFinish (fun vs H Q E h=>?_) (fun cdv A outer s H vs Q E hr h=>?_)
 ·obtain ⟨M,ln,l,s,ns,rfl,_⟩:=h
  rfl
 ·obtain ⟨M,ln,l,st,ns,rfl,LS,hl,lM,hz,k⟩:=h
  refine ⟨_,pss_cons (ps_set (i:=2) scFinish.nd rfl (Or.inl rfl) (pe_fld (pv 0) rfl))
   (pss_cons (ps_set (i:=3) scFinish.nd rfl (Or.inl rfl) (pe_fld (pv 0) rfl))
   (pss_cons (ps_if (pt_not (pt_val (pe_call (ok_areConditions T) (hr.mono (by decide)) rfl T.x_are_conditions.m T.x_are_conditions.F.kp T.x_are_conditions.b .nil pass0 (pa_cons (pv 1) (pa_cons (pe_fld (pv 2) rfl) pa_nil))))) (pss_one (ps_ret (pe_lst (pa_cons (pe_const rfl T.k_WRONG_LIST) pa_nil)))) pss_nil)
   (pss_cons (ps_set (i:=4) scFinish.nd rfl (Or.inl rfl) (pe_call (ok_refD T) (hr.mono (by decide)) rfl T.x_refusal_unless_doing.m T.x_refusal_unless_doing.F.kp T.x_refusal_unless_doing.b .nil pass0 (pa_cons (pv 0) pa_nil)))
   (pss_cons (ps_if (pt_cmpR op_ne (pv 4) pe_int (nomark _)) (pss_one (ps_ret (pe_lst (pa_cons (pv 4) pa_nil)))) pss_nil)
   (pss_cons (ps_if (pt_val (pe_call (ok_waits T) hr rfl T.x_waits_for_cue.m T.x_waits_for_cue.F.kp T.x_waits_for_cue.b .nil pass0 (pa_cons (pv 2) (pa_cons (pv 3) pa_nil)))) (pss_one (ps_ret (pe_lst (pa_cons (pe_const rfl T.k_NOT_AT_ITS_END) pa_nil)))) pss_nil)
   (pss_cons (ps_set (i:=5) scFinish.nd rfl (Or.inl rfl) (pe_call (ok_way T) hr rfl T.x_way_taken.m T.x_way_taken.F.kp T.x_way_taken.b .nil pass0 (pa_cons (pv 2) (pa_cons (pv 3) pa_nil))))
   (pss_cons (ps_if (pt_not (pt_val (pe_call (ok_can T) (hr.mono (by decide)) rfl T.x_can_be_left.m T.x_can_be_left.F.kp T.x_can_be_left.b .nil pass0 (pa_cons (pv 5) (pa_cons (pe_fld (pv 3) rfl) (pa_cons (pv 1) pa_nil)))))) (pss_one (ps_ret (pe_lst (pa_cons (pe_const rfl T.k_CANNOT_BE) pa_nil)))) pss_nil)
   (pss_cons (ps_set (i:=6) scFinish.nd rfl (Or.inl rfl) (pe_call (ok_resc T) (hr.mono (by decide)) rfl T.x_is_rescued.m T.x_is_rescued.F.kp T.x_is_rescued.b .nil pass0 (pa_cons (pv 2) (pa_cons (pv 3) pa_nil))))
   (pss_cons (ps_fld (pv 3) (pv 1) rfl)
   (pss_cons (ps_fld (pv 3) (pe_call (ok_leftBy T) (hr.mono (by decide)) rfl T.x_left_by.m T.x_left_by.F.kp T.x_left_by.b .nil pass0 (pa_cons (pv 5) (pa_cons (pe_fld (pv 3) rfl) pa_nil))) rfl)
   (pss_cons (ps_fldaug (pv 3) (pe_fld (pe_call (ok_itemAt T) (hr.mono (by decide)) rfl T.x_item_at.m T.x_item_at.F.kp T.x_item_at.b .nil pass0 (pa_cons (pv 2) (pa_cons (pe_fld (pv 3) rfl) pa_nil))) rfl) in_add)
   (pss_cons (ps_expr (pe_bm PySem.F.plainAttrs_list PySem.F.slot_list_append PySem.F.type_list_append mt_append (pe_fld (pv 3) rfl) (pa_cons (pe_make T.mk_Done (ok_doneInit T) (hr.mono (by decide)) rfl T.mg_Done T.b_Done_init .nil pass0 (pa_cons (pe_fld (pv 3) rfl) (pa_cons (pe_fld (pv 3) rfl) (pa_cons (pv 6) pa_nil)))) pa_nil)))
   (pss_cons (ps_expr (pe_meth (pv 3) T.cl_Show T.m_Show_turn_to (ok_turn T) (hr.mono (by decide)) T.b_Show_turn_to .nil pass0 (pa_cons (pe_const rfl T.k_NO_ITEM) pa_nil)))
   (pss_one (ps_ret (pe_lst (pa_cons (pe_ifExp (pt_val (pv 6)) pe_int pe_int) pa_nil))))))))))))))))),?_⟩
  have LS0:=LS
  have W:=LS.wfg
  obtain ⟨dx,hs,vv,pa,ta,ra,ba,ts,rs,SM,rfl,L⟩:=LS
  have estep:Vbcjaj.step st (.finish ns)=if condsB st.house.props ns=false then Vbcjaj.no st (-2) else Vbcjaj.onItem st fun g d t=>if 0 < t.wait∧d.value.isNone=true∧d.rescued=false then Vbcjaj.no st (-13)
   else if Vbcjaj.canBe g (wayOf d t) (Vbcjaj.nats ns)=false then Vbcjaj.no st (-8)
    else (Vbcjaj.set st { g with actual:=Vbcjaj.nats ns,beliefs:=Vbcjaj.leftBy g.beliefs (wayOf d t),doing:=none,log:=g.log++[⟨d.item,d.value,d.rescued⟩],minutes:=g.minutes + t.minutes },[Vbcjaj.bit d.rescued]):=rfl
  obtain ⟨⟨dh,h0⟩,h1,_⟩:=id L.house
  refine ⟨_,rfl,ln,_,dx,_,_,rfl,L.ob,T.cl_Line,T.no_Line_house,rfl,?_⟩
  refine ⟨_,rfl,ln,_,dx,_,_,rfl,L.ob,T.cl_Line,T.no_Line_show,rfl,?_⟩
  refine ⟨_,rfl,_,rfl,hs,_,dh,_,_,rfl,h0,T.cl_House,T.no_House_props,rfl,l,pa,ns,st.house.props,rfl,SqL.of hl,SqL.of h1,small_le hz,fun H1 s1=>⟨_,rfl,?_⟩⟩
  cases c1:condsB st.house.props ns with
  | false=>exact iteT (bad1 LS0 k (by rw [estep,c1,if_pos rfl];rfl) s1)
  | true =>
   rw [c1,if_neg (by simp)] at estep
   refine iteF ?_
   obtain ⟨g1,g2,g3⟩:=conds_good c1 L.wf.pc
   have nl:(Vbcjaj.nats ns).length=st.house.props.length:=by rw [← g1];exact List.length_map _
   rw [ints_nats g2] at hl
   have hpl:=L.wf.pl
   have LS1:=LS0.same (SAc_stable t) s1
   refine ⟨_,rfl,_,ln,st,rfl,LS1,?_⟩
   refine ⟨_,rfl,rfl,_,rfl,?_⟩
   rw [ne0]
   rcases onItem_cases W (fun g d t=>if 0 < t.wait∧d.value.isNone=true∧d.rescued=false then Vbcjaj.no st (-13)
    else if Vbcjaj.canBe g (wayOf d t) (Vbcjaj.nats ns)=false then Vbcjaj.no st (-8)
     else (Vbcjaj.set st { g with actual:=Vbcjaj.nats ns,beliefs:=Vbcjaj.leftBy g.beliefs (wayOf d t),doing:=none,log:=g.log++[⟨d.item,d.value,d.rescued⟩],minutes:=g.minutes + t.minutes },[Vbcjaj.bit d.rescued])) with ⟨z,e2⟩ | ⟨z,g,d,it,hst,hd,hi,e2⟩
   ·rw [decide_eq_true z]
    exact iteT (bad2 rfl LS0 k (estep.trans e2) s1)
   ·rw [decide_eq_false (fun q=>q z)]
    refine iteF ?_
    rw [e2] at estep
    have hsh:=L.sh
    rw [hst] at hsh
    obtain ⟨sa,rfl,dz,bl,aa,da,wa,ds,cs,rfl,X⟩:=hsh
    obtain ⟨⟨a1,a2,a3,a4⟩,⟨b1,b2,b3⟩,⟨c1,c2⟩,d1,cnd⟩:=nd_show L.nd
    have W0:=X.wf
    have gi:=itemAt_good L.wf hi
    obtain ⟨it',hi',hml,hre⟩:=W0.dg d hd
    have:it'=it:=Option.some.inj (hi'.symm.trans hi)
    subst this
    obtain ⟨wl,wfw⟩:=way_len gi hre
    have onS:∀ {H':Hp},Same H H'→ShowOn t (ln::hs::ta::ra::sa::bl::da::wa::cs) H' hs sa st.house g:=fun sm=>⟨⟨pa,ta,ra,ba,ts,rs,L.house.same sm⟩,⟨dz,bl,aa,da,wa,sm _ _ X.ob⟩,W0⟩
    refine ⟨_,rfl,_,rfl,_,hs,sa,st.house,g,rfl,onS s1,_,rfl,?_⟩
    have ew:waitsB st.house g=(decide (0 < it'.wait) && (d.value.isNone && !d.rescued)):=by unfold waitsB;rw [hd];dsimp only;rw [hi]
    rw [ew]
    cases hwb:(decide (0 < it'.wait) && (d.value.isNone && !d.rescued)) with
    | true =>
     simp only [Bool.and_eq_true,decide_eq_true_eq,Bool.not_eq_true'] at hwb
     rw [if_pos hwb] at estep
     exact iteT (bad1 LS0 k estep s1)
    | false =>
     have hnw:¬ (0 < it'.wait∧d.value.isNone=true∧d.rescued=false):=fun q=>by
      rw [decide_eq_true q.1,q.2.1,q.2.2] at hwb
      exact absurd hwb (by simp)
     rw [if_neg hnw] at estep
     refine iteF ?_
     refine ⟨_,rfl,_,rfl,_,hs,sa,st.house,g,d,it',rfl,onS s1,hd,hi,fun wy hwy wyM=>?_⟩
     refine ⟨_,rfl,_,rfl,sa,_,dz,_,_,rfl,s1 _ _ X.ob,T.cl_Show,T.no_Show_actual,rfl,_,rfl,wy,aa,l,wayOf d it',g.actual,Vbcjaj.nats ns,rfl,hwy,s1 _ _ X.ac,s1 _ _ hl,by rw [wl];exact W0.al,by rw [wl];exact nl,by omega,wfw,g3,fun H2 s2=>⟨_,rfl,?_⟩⟩
     rw [← canB_eq (by rw [wl,nl]) (by rw [W0.al,nl]) g3]
     have s12:=s1.trans s2
     cases hcb:Vbcjaj.canBe g (wayOf d it') (Vbcjaj.nats ns) with
     | false =>
      rw [if_pos hcb] at estep
      exact iteT (bad1 LS0 k estep s12)
     | true =>
      rw [if_neg (by rw [hcb];simp)] at estep
      rw [estep] at k
      refine iteF ?_
      refine ⟨_,rfl,_,rfl,_,hs,sa,st.house,g,rfl,onS s12,?_⟩
      have erb:rescB g=d.rescued:=by unfold rescB;rw [hd]
      rw [erb]
      refine ⟨_,rfl,_,rfl,sa,_,dz,_,rfl,s12 _ _ X.ob,T.cl_Show,T.no_Show_actual,by show 10 < 1000;decide,?_⟩
      have ch3:Chg (sa::bl::da::wa::cs) H (upd H2 sa (.ins t.c_Show dz (putF "actual" (.ref l) (showG bl aa da wa g)))):=(Chg.same s12).trans (Chg.upd (by simp))
      have ob3:upd H2 sa (.ins t.c_Show dz (putF "actual" (.ref l) (showG bl aa da wa g))) sa=some (.ins t.c_Show dz (showG bl l da wa g)):=by rw [upd_same];rfl
      have oth3:∀ b o,b≠sa→H2 b=some o→upd H2 sa (.ins t.c_Show dz (putF "actual" (.ref l) (showG bl aa da wa g))) b=some o:=fun b o hb q=>by rw [upd_ne hb];exact q
      generalize upd H2 sa (.ins t.c_Show dz (putF "actual" (.ref l) (showG bl aa da wa g)))=H3 at ch3 ob3 oth3 ⊢
      have wysa:wy≠sa:=fun z=>wyM (by simp [z])
      have lsa:l≠sa:=fun z=>lM (by simp [z])
      have oth3':∀ b o,b≠sa→H b=some o→H3 b=some o:=fun b o hb q=>oth3 b o hb (s12 _ _ q)
      refine ⟨_,rfl,_,rfl,sa,_,dz,_,_,rfl,ob3,T.cl_Show,T.no_Show_beliefs,rfl,wy,bl,wayOf d it',g.beliefs,rfl,SqL.of (oth3 _ _ wysa (s2 _ _ hwy)),SqL.of (oth3' _ _ a1.symm X.be),by rw [wl,W0.bl],small_le (by rw [W0.bl];omega),fun H4 B s4 nB hB=>?_⟩
      have nBH:H B=none:=ch3.free nB
      have saB:sa≠B:=ne_of_none ob3 nB
      refine ⟨_,rfl,sa,_,dz,_,rfl,s4 _ _ ob3,T.cl_Show,T.no_Show_beliefs,by show 10 < 1000;decide,?_⟩
      have ch5:Chg (sa::bl::da::wa::cs) H (upd H4 sa (.ins t.c_Show dz (putF "beliefs" (.ref B) (showG bl l da wa g)))):=(ch3.trans (Chg.same s4)).trans (Chg.upd (by simp))
      have ob5:upd H4 sa (.ins t.c_Show dz (putF "beliefs" (.ref B) (showG bl l da wa g))) sa=some (.ins t.c_Show dz (showG B l da wa g)):=by rw [upd_same];rfl
      have hB5:upd H4 sa (.ins t.c_Show dz (putF "beliefs" (.ref B) (showG bl l da wa g))) B=some (.lst (nv (Vbcjaj.leftBy g.beliefs (wayOf d it')))):=by rw [upd_ne saB.symm];exact hB
      have oth5:∀ b o,b≠sa→H b=some o→upd H4 sa (.ins t.c_Show dz (putF "beliefs" (.ref B) (showG bl l da wa g))) b=some o:=fun b o hb q=>by rw [upd_ne hb];exact s4 _ _ (oth3' b o hb q)
      generalize upd H4 sa (.ins t.c_Show dz (putF "beliefs" (.ref B) (showG bl l da wa g)))=H5 at ch5 ob5 hB5 oth5 ⊢
      have obd:H5 sa=some (.ins t.c_Show dz (showF B l g.serial da g.minutes wa (d.item:Int) (d.sent:Int) (d.ticks:Int) (Vbcjaj.orMinus d.value))):=by rw [ob5];unfold showG;rw [hd];rfl
      refine ⟨_,rfl,sa,_,dz,_,_,rfl,obd,T.cl_Show,T.no_Show_minutes,rfl,_,rfl,_,rfl,sa,_,dz,_,_,rfl,obd,T.cl_Show,T.no_Show_doing,rfl,_,hs,d.item,st.house,rfl,⟨pa,ta,ra,ba,ts,rs,L.houseC ch5⟩,fun v hv=>?_⟩
      rw [hi] at hv
      obtain ⟨x,rfl,n_,l_,r_,⟨di,io⟩,_⟩:=hv.some_
      refine ⟨x,_,di,_,_,rfl,io,T.cl_Item,T.no_Item_minutes,rfl,_,_,rfl,rfl,dz,_,obd,by show 10 < 1000;decide,?_⟩
      have ch6:Chg (sa::bl::da::wa::cs) H (upd H5 sa (.ins t.c_Show dz (putF "minutes" (.int ((g.minutes:Int) + (it'.minutes:Int))) (showF B l g.serial da g.minutes wa (d.item:Int) (d.sent:Int) (d.ticks:Int) (Vbcjaj.orMinus d.value))))):=ch5.trans (Chg.upd (by simp))
      have ob6:upd H5 sa (.ins t.c_Show dz (putF "minutes" (.int ((g.minutes:Int) + (it'.minutes:Int))) (showF B l g.serial da g.minutes wa (d.item:Int) (d.sent:Int) (d.ticks:Int) (Vbcjaj.orMinus d.value)))) sa=some (.ins t.c_Show dz (showF B l g.serial da ((g.minutes + it'.minutes:Nat):Int) wa (d.item:Int) (d.sent:Int) (d.ticks:Int) (Vbcjaj.orMinus d.value))):=by rw [upd_same];rfl
      have hB6:upd H5 sa (.ins t.c_Show dz (putF "minutes" (.int ((g.minutes:Int) + (it'.minutes:Int))) (showF B l g.serial da g.minutes wa (d.item:Int) (d.sent:Int) (d.ticks:Int) (Vbcjaj.orMinus d.value)))) B=_:=(upd_ne saB.symm).trans hB5
      have oth6:∀ b o,b≠sa→H b=some o→upd H5 sa (.ins t.c_Show dz (putF "minutes" (.int ((g.minutes:Int) + (it'.minutes:Int))) (showF B l g.serial da g.minutes wa (d.item:Int) (d.sent:Int) (d.ticks:Int) (Vbcjaj.orMinus d.value)))) b=some o:=fun b o hb q=>by rw [upd_ne hb];exact oth5 b o hb q
      generalize upd H5 sa (.ins t.c_Show dz (putF "minutes" (.int ((g.minutes:Int) + (it'.minutes:Int))) (showF B l g.serial da g.minutes wa (d.item:Int) (d.sent:Int) (d.ticks:Int) (Vbcjaj.orMinus d.value))))=H6 at ch6 ob6 hB6 oth6 ⊢
      have dn6:=oth6 _ _ a2.symm X.dn
      refine ⟨_,rfl,sa,_,dz,_,_,rfl,ob6,T.cl_Show,T.no_Show_done,rfl,Or.inl ⟨rfl,_,SqL.of dn6⟩,_,rfl,sa,_,dz,_,_,rfl,ob6,T.cl_Show,T.no_Show_doing,rfl,_,rfl,sa,_,dz,_,_,rfl,ob6,T.cl_Show,T.no_Show_taken,rfl,_,rfl,fun y dy ny ndy ney=>?_⟩
      refine ⟨y,dy,⟨d.item,d.value,d.rescued⟩,rfl,upd_same,rfl,?_⟩
      obtain ⟨s7,hy7⟩:=done_made (t:=t) (x:=⟨d.item,d.value,d.rescued⟩) ny ndy ney
      generalize upd (upd (upd H6 dy (.own y)) y (.ins t.c_Done dy [])) y (.ins t.c_Done dy (doneF ⟨d.item,d.value,d.rescued⟩))=H7 at s7 hy7 ⊢
      have hlim:=L.wf.lim
      have hll:=W0.ll
      have hlm:=W0.lm
      refine ⟨da,_,_,rfl,rfl,s7 _ _ dn6,by rw [List.length_map,X.dl];exact small1000 (by omega),?_⟩
      have nyH:H y=none:=ch6.free ny
      have yda:y≠da:=fun z=>by rw [z,dn6] at ny;cases ny
      have ysa:y≠sa:=fun z=>by rw [z,ob6] at ny;cases ny
      have yB:y≠B:=fun z=>by rw [z,hB6] at ny;cases ny
      have Bda:B≠da:=fun z=>by rw [z,X.dn] at nBH;cases nBH
      have Bwa:B≠wa:=fun z=>by rw [z,X.wr] at nBH;cases nBH
      have Bcs:B∉cs:=fun z=>by
       obtain ⟨o,q⟩:=LS0.there (SAc_stable t) B (by simp [z])
       rw [nBH] at q;cases q
      refine ⟨_,rfl,sa,dz,_,rfl,by rw [upd_ne a2];exact s7 _ _ ob6,rfl,sa,dz,_,-1,rfl,by rw [upd_ne a2];exact s7 _ _ ob6,by show 10 < 1000;decide,by show 10 < 1000;decide,by show 10 < 1000;decide,by show 10 < 1000;decide,?_⟩
      have ch9:Chg (sa::bl::da::wa::cs) H (upd (upd H7 da (.lst (ds.map V.ref++[.ref y]))) sa (.ins t.c_Show dz (turnF (-1) (showF B l g.serial da ((g.minutes + it'.minutes:Nat):Int) wa (d.item:Int) (d.sent:Int) (d.ticks:Int) (Vbcjaj.orMinus d.value))))):=((ch6.trans (Chg.same s7)).trans (Chg.upd (by simp))).trans (Chg.upd (by simp))
      have ob9:upd (upd H7 da (.lst (ds.map V.ref++[.ref y]))) sa (.ins t.c_Show dz (turnF (-1) (showF B l g.serial da ((g.minutes + it'.minutes:Nat):Int) wa (d.item:Int) (d.sent:Int) (d.ticks:Int) (Vbcjaj.orMinus d.value)))) sa=some (.ins t.c_Show dz (showG B l da wa { g with actual:=Vbcjaj.nats ns,beliefs:=Vbcjaj.leftBy g.beliefs (wayOf d it'),doing:=none,log:=g.log++[⟨d.item,d.value,d.rescued⟩],minutes:=g.minutes + it'.minutes })):=by rw [upd_same];rfl
      have dn9:upd (upd H7 da (.lst (ds.map V.ref++[.ref y]))) sa (.ins t.c_Show dz (turnF (-1) (showF B l g.serial da ((g.minutes + it'.minutes:Nat):Int) wa (d.item:Int) (d.sent:Int) (d.ticks:Int) (Vbcjaj.orMinus d.value)))) da=some (.lst ((ds++[y]).map V.ref)):=by rw [upd_ne a2.symm,upd_same,List.map_append];rfl
      have oth9:∀ b o,b≠sa→b≠da→H6 b=some o→upd (upd H7 da (.lst (ds.map V.ref++[.ref y]))) sa (.ins t.c_Show dz (turnF (-1) (showF B l g.serial da ((g.minutes + it'.minutes:Nat):Int) wa (d.item:Int) (d.sent:Int) (d.ticks:Int) (Vbcjaj.orMinus d.value)))) b=some o:=fun b o hb hb2 q=>by rw [upd_ne hb,upd_ne hb2];exact s7 _ _ q
      have y9:upd (upd H7 da (.lst (ds.map V.ref++[.ref y]))) sa (.ins t.c_Show dz (turnF (-1) (showF B l g.serial da ((g.minutes + it'.minutes:Nat):Int) wa (d.item:Int) (d.sent:Int) (d.ticks:Int) (Vbcjaj.orMinus d.value)))) y=_:=((upd_ne ysa).trans (upd_ne yda)).trans hy7
      generalize upd (upd H7 da (.lst (ds.map V.ref++[.ref y]))) sa (.ins t.c_Show dz (turnF (-1) (showF B l g.serial da ((g.minutes + it'.minutes:Nat):Int) wa (d.item:Int) (d.sent:Int) (d.ticks:Int) (Vbcjaj.orMinus d.value))))=H9 at ch9 ob9 dn9 oth9 y9 ⊢
      have th:∀ m∈sa::B::da::wa::cs,m∈sa::bl::da::wa::cs∨H m=none:=fun m hm=>by
       simp only [List.mem_cons] at hm ⊢
       rcases hm with q | q | q | q | q
       ·exact .inl (.inl q)
       ·exact .inr (by rw [q];exact nBH)
       ·exact .inl (.inr (.inr (.inl q)))
       ·exact .inl (.inr (.inr (.inr (.inl q))))
       ·exact .inl (.inr (.inr (.inr (.inr q))))
      have nd':(sa::B::da::wa::cs).Nodup:=by
       simp only [List.nodup_cons,List.mem_cons,not_or]
       exact ⟨⟨saB,a2,a3,a4⟩,⟨Bda,Bwa,Bcs⟩,⟨c1,c2⟩,d1,cnd⟩
      obtain ⟨_,de'⟩:=X.kept ch9 th
      have nin:∀ {b:Addr},(b∉ln::hs::ta::ra::sa::bl::da::wa::cs)→b≠B→b∉ln::hs::ta::ra::sa::B::da::wa::cs:=fun {b} hb hB' z=>by
       simp only [List.mem_cons,not_or] at hb z
       rcases z with z | z | z | z | z | z | z | z | z
       ·exact hb.1 z
       ·exact hb.2.1 z
       ·exact hb.2.2.1 z
       ·exact hb.2.2.2.1 z
       ·exact hb.2.2.2.2.1 z
       ·exact hB' z
       ·exact hb.2.2.2.2.2.2.1 z
       ·exact hb.2.2.2.2.2.2.2.1 z
       ·exact hb.2.2.2.2.2.2.2.2 z
      have lB:l≠B:=fun z=>by rw [← z,hl] at nBH;cases nBH
      have lda:l≠da:=fun z=>lM (by simp [z])
      have sh:SAc t (ln::hs::ta::ra::sa::B::da::wa::cs) H9 sa st.house { g with actual:=Vbcjaj.nats ns,beliefs:=Vbcjaj.leftBy g.beliefs (wayOf d it'),doing:=none,log:=g.log++[⟨d.item,d.value,d.rescued⟩],minutes:=g.minutes + it'.minutes } (sa::B::da::wa::cs):=by
       refine ⟨dz,B,l,da,wa,ds++[y],cs,rfl,ob9,oth9 _ _ saB.symm Bda hB6,oth9 _ _ lsa lda (oth6 _ _ lsa hl),nin lM lB,dn9,?_,fun i e' en h1 h2=>?_,oth9 _ _ a3.symm c1.symm (oth6 _ _ a3.symm X.wr),X.wn,fun i c y' h1 h2=>?_,?_⟩
       ·show (ds++[y]).length=(g.log++[_]).length
        rw [List.length_append,List.length_append,X.dl]
        rfl
       ·have h2':(g.log++[(⟨d.item,d.value,d.rescued⟩:Vbcjaj.Entry)])[i]?=some en:=h2
        by_cases hlt:i < ds.length
        ·rw [List.getElem?_append_left hlt] at h1
         rw [List.getElem?_append_left (by rw [← X.dl];exact hlt)] at h2'
         exact de' i e' en h1 h2'
        ·have hge:ds.length≤i:=by omega
         rw [List.getElem?_append_right hge] at h1
         rw [List.getElem?_append_right (by rw [← X.dl];exact hge),← X.dl] at h2'
         have i0:i - ds.length=0:=by
          have:=(List.getElem?_eq_some_iff.mp h1).1
          simp at this
          omega
         rw [i0] at h1 h2'
         cases h1
         cases h2'
         refine ⟨nin (fun z=>?_) yB,dy,y9⟩
         obtain ⟨o,q⟩:=LS0.there (SAc_stable t) y z
         rw [nyH] at q;cases q
       ·obtain ⟨dc,q⟩:=X.wc i c y' h1 h2
        have ccs:c∈cs:=List.mem_of_getElem? h1
        exact ⟨dc,oth9 _ _ (ne_in a4 ccs) (ne_in c2 ccs) (oth6 _ _ (ne_in a4 ccs) q)⟩
       ·have m1:=gi.min1
        refine ⟨nl,g3,?_,leftBy_few W0.bf wfw,W0.wl,?_,hml,fun d' hd'=>nomatch hd'⟩
        ·show (Vbcjaj.leftBy g.beliefs (wayOf d it')).length=_
         rw [leftBy_len (by rw [wl,W0.bl]),W0.bl]
        ·show (g.log++[_]).length≤g.minutes + it'.minutes
         rw [List.length_append]
         show g.log.length + 1≤g.minutes + it'.minutes
         omega
      have fin:=fun vs e=>fin_show L k ch9 th nd' sh vs e
      refine ⟨_,rfl,_,rfl,?_⟩
      cases hrr:d.rescued with
      | true=>exact iteT ⟨by show 1≤sizeLine;decide,fin _ (by rw [hrr];rfl)⟩
      | false=>exact iteF ⟨by show 1≤sizeLine;decide,fin _ (by rw [hrr];rfl)⟩
end
theorem callOf_cue {p:Int} {xs:List Int} {rows:List (List Int)} {d:Vbcjaj.Call} (h:Shp p xs rows d) (h9:9≤p) (h13:p≤13) :
  (p=9∧∃ m,xs=[m]∧d=.send m)∨(p=10∧∃ m,xs=[m]∧d=.lose m)∨(p=11∧∃ m,xs=[m]∧d=.double m)∨(p=12∧∃ m,xs=[m]∧d=.deliver m)∨(p=13∧∃ m,xs=[m]∧d=.tick m):=by
 cases h <;> first | (exfalso;omega;done) | (simp;done)
theorem callOf_look {p:Int} {xs:List Int} {rows:List (List Int)} {d:Vbcjaj.Call} (h:Shp p xs rows d) (h9:15≤p) (h13:p≤18) :
  (p=15∧∃ m,xs=[m]∧d=.glance m)∨(p=16∧d=.state)∨(p=17∧d=.log)∨(p=18∧d=.wire):=by
 cases h <;> first | (exfalso;omega;done) | (simp;done)
theorem callOf_show {p:Int} {xs:List Int} {rows:List (List Int)} {d:Vbcjaj.Call} (h:Shp p xs rows d) (hp:p=7∨p=8∨p=14∨p=19) :
  (p=7∧xs=[]∧∃ a,rows=[a]∧d=.start a)∨(p=8∧(∃ m,xs=[m]∧d=.begin_ m))∨(p=14∧xs=[]∧∃ a,rows=[a]∧d=.finish a)∨(p=19∧d=.close):=by
 cases h <;> first | (exfalso;omega;done) | (simp;done)
theorem callOf_all {p:Int} {xs:List Int} {rows:List (List Int)} {d:Vbcjaj.Call} (h:Shp p xs rows d):p≤19:=by
 cases h <;> decide
section
variable {P:Program} {w:World} {K:PySem.W.Frag} {mg:Str→Option Value} {base:Heap} {t:Ad}
def spThree (t:Ad) (ok:Int→Prop):Sp:=fun vs H Q _=>∃ (M:List Addr) (ln nA:Addr) (s:Vbcjaj.State) (p:Int) (xs:List Int) (rows:List (List Int)) (d:Vbcjaj.Call),vs=[.ref ln,.int p,.ref nA]∧ok p∧LineSt t (SAc t) M H ln s∧H nA=some (.lst (xs.map V.int))∧Shp p xs rows d∧newSt t (SAc t) M H ln (Vbcjaj.step s d) Q
theorem scCueC:FnScope ["line","call","numbers"] ["line","call","numbers"] (defScope s_answer_cue_call):=⟨rfl,rfl,rfl,by decide +kernel,rfl,by decide +kernel,by decide +kernel⟩
theorem ok_cueC (T:Tx K mg t):FnOk P w K mg base CX0 7 t.f_answer_cue_call t.d_answer_cue_call ["line","call","numbers"] (spThree t fun p=>9≤p∧p≤13):=by
 refine T.x_answer_cue_call.F.ok scCueC (fun vs H Q E h=>?_) (fun cdv A outer s H vs Q E hr h=>?_)
 ·obtain ⟨M,ln,nA,s,p,xs,rows,d,rfl,_⟩:=h
  rfl
 ·obtain ⟨M,ln,nA,st,p,xs,rows,d,rfl,⟨g9,g13⟩,LS,hn,hd,k⟩:=h
  refine ⟨_,pss_cons (ps_if (pt_cmpR op_eq (pv 1) pe_int (nomark _)) (pss_one (ps_ret (pe_call (ok_send T) (hr.mono (by decide)) rfl T.x_answer_send.m T.x_answer_send.F.kp T.x_answer_send.b .nil pass0 (pa_cons (pv 0) (pa_cons (pe_ix ix_list (pv 2) pe_int (fun _ _=>rfl)) pa_nil))))) pss_nil)
   (pss_cons (ps_if (pt_cmpR op_eq (pv 1) pe_int (nomark _)) (pss_one (ps_ret (pe_call (ok_lose T) (hr.mono (by decide)) rfl T.x_answer_lose.m T.x_answer_lose.F.kp T.x_answer_lose.b .nil pass0 (pa_cons (pv 0) (pa_cons (pe_ix ix_list (pv 2) pe_int (fun _ _=>rfl)) pa_nil))))) pss_nil)
   (pss_cons (ps_if (pt_cmpR op_eq (pv 1) pe_int (nomark _)) (pss_one (ps_ret (pe_call (ok_double T) (hr.mono (by decide)) rfl T.x_answer_double.m T.x_answer_double.F.kp T.x_answer_double.b .nil pass0 (pa_cons (pv 0) (pa_cons (pe_ix ix_list (pv 2) pe_int (fun _ _=>rfl)) pa_nil))))) pss_nil)
   (pss_cons (ps_if (pt_cmpR op_eq (pv 1) pe_int (nomark _)) (pss_one (ps_ret (pe_call (ok_deliver T) hr rfl T.x_answer_deliver.m T.x_answer_deliver.F.kp T.x_answer_deliver.b .nil pass0 (pa_cons (pv 0) (pa_cons (pe_ix ix_list (pv 2) pe_int (fun _ _=>rfl)) pa_nil))))) pss_nil)
   (pss_one (ps_ret (pe_call (ok_tick T) (hr.mono (by decide)) rfl T.x_answer_tick.m T.x_answer_tick.F.kp T.x_answer_tick.b .nil pass0 (pa_cons (pv 0) (pa_cons (pe_ix ix_list (pv 2) pe_int (fun _ _=>rfl)) pa_nil)))))))),?_⟩
  refine ⟨_,rfl,rfl,?_⟩
  rcases callOf_cue hd g9 g13 with ⟨rfl,m,rfl,rfl⟩ | ⟨rfl,m,rfl,rfl⟩ | ⟨rfl,m,rfl,rfl⟩ | ⟨rfl,m,rfl,rfl⟩ | ⟨rfl,m,rfl,rfl⟩
  ·exact ⟨_,rfl,iteT ⟨_,rfl,_,rfl,nA,_,0,.int m,rfl,rfl,SqL.of hn,rfl,M,ln,st,m,rfl,LS,k⟩⟩
  ·exact ⟨_,rfl,iteF ⟨_,rfl,rfl,_,rfl,iteT ⟨_,rfl,_,rfl,nA,_,0,.int m,rfl,rfl,SqL.of hn,rfl,M,ln,st,m,rfl,LS,k⟩⟩⟩
  ·exact ⟨_,rfl,iteF ⟨_,rfl,rfl,_,rfl,iteF ⟨_,rfl,rfl,_,rfl,iteT ⟨_,rfl,_,rfl,nA,_,0,.int m,rfl,rfl,SqL.of hn,rfl,M,ln,st,m,rfl,LS,k⟩⟩⟩⟩
  ·exact ⟨_,rfl,iteF ⟨_,rfl,rfl,_,rfl,iteF ⟨_,rfl,rfl,_,rfl,iteF ⟨_,rfl,rfl,_,rfl,iteT ⟨_,rfl,_,rfl,nA,_,0,.int m,rfl,rfl,SqL.of hn,rfl,M,ln,st,m,rfl,LS,k⟩⟩⟩⟩⟩
  ·exact ⟨_,rfl,iteF ⟨_,rfl,rfl,_,rfl,iteF ⟨_,rfl,rfl,_,rfl,iteF ⟨_,rfl,rfl,_,rfl,iteF ⟨_,rfl,_,rfl,nA,_,0,.int m,rfl,rfl,SqL.of hn,rfl,M,ln,st,m,rfl,LS,k⟩⟩⟩⟩⟩
theorem scLookC:FnScope ["line","call","numbers"] ["line","call","numbers"] (defScope s_answer_look_call):=⟨rfl,rfl,rfl,by decide +kernel,rfl,by decide +kernel,by decide +kernel⟩
theorem ok_lookC (T:Tx K mg t):FnOk P w K mg base CX0 6 t.f_answer_look_call t.d_answer_look_call ["line","call","numbers"] (spThree t fun p=>15≤p∧p≤18):=by
 refine T.x_answer_look_call.F.ok scLookC (fun vs H Q E h=>?_) (fun cdv A outer s H vs Q E hr h=>?_)
 ·obtain ⟨M,ln,nA,s,p,xs,rows,d,rfl,_⟩:=h
  rfl
 ·obtain ⟨M,ln,nA,st,p,xs,rows,d,rfl,⟨g9,g13⟩,LS,hn,hd,k⟩:=h
  refine ⟨_,pss_cons (ps_if (pt_cmpR op_eq (pv 1) pe_int (nomark _)) (pss_one (ps_ret (pe_call (ok_glance T) (hr.mono (by decide)) rfl T.x_answer_glance.m T.x_answer_glance.F.kp T.x_answer_glance.b .nil pass0 (pa_cons (pv 0) (pa_cons (pe_ix ix_list (pv 2) pe_int (fun _ _=>rfl)) pa_nil))))) pss_nil)
   (pss_cons (ps_if (pt_cmpR op_eq (pv 1) pe_int (nomark _)) (pss_one (ps_ret (pe_call (ok_state T) hr rfl T.x_answer_state.m T.x_answer_state.F.kp T.x_answer_state.b .nil pass0 (pa_cons (pv 0) pa_nil)))) pss_nil)
   (pss_cons (ps_if (pt_cmpR op_eq (pv 1) pe_int (nomark _)) (pss_one (ps_ret (pe_call (ok_log T) (hr.mono (by decide)) rfl T.x_answer_log.m T.x_answer_log.F.kp T.x_answer_log.b .nil pass0 (pa_cons (pv 0) pa_nil)))) pss_nil)
   (pss_one (ps_ret (pe_call (ok_wire T) (hr.mono (by decide)) rfl T.x_answer_wire.m T.x_answer_wire.F.kp T.x_answer_wire.b .nil pass0 (pa_cons (pv 0) pa_nil)))))),?_⟩
  refine ⟨_,rfl,rfl,?_⟩
  rcases callOf_look hd g9 g13 with ⟨rfl,m,rfl,rfl⟩ | ⟨rfl,rfl⟩ | ⟨rfl,rfl⟩ | ⟨rfl,rfl⟩
  ·exact ⟨_,rfl,iteT ⟨_,rfl,_,rfl,nA,_,0,.int m,rfl,rfl,SqL.of hn,rfl,M,ln,st,m,rfl,LS,k⟩⟩
  ·exact ⟨_,rfl,iteF ⟨_,rfl,rfl,_,rfl,iteT ⟨_,rfl,M,ln,st,rfl,LS,k⟩⟩⟩
  ·exact ⟨_,rfl,iteF ⟨_,rfl,rfl,_,rfl,iteF ⟨_,rfl,rfl,_,rfl,iteT ⟨_,rfl,M,ln,st,rfl,LS,k⟩⟩⟩⟩
  ·exact ⟨_,rfl,iteF ⟨_,rfl,rfl,_,rfl,iteF ⟨_,rfl,rfl,_,rfl,iteF ⟨_,rfl,M,ln,st,rfl,LS,k⟩⟩⟩⟩
theorem scShowC:FnScope nmCall nmCall (defScope s_answer_show_call):=⟨rfl,rfl,rfl,by decide +kernel,rfl,by decide +kernel,by decide +kernel⟩
theorem ok_showC (T:Tx K mg t):FnOk P w K mg base CX0 7 t.f_answer_show_call t.d_answer_show_call nmCall (spAny t (SAc t) fun p=>p=7∨p=8∨p=14∨p=19):=by
 refine T.x_answer_show_call.F.ok scShowC (fun vs H Q E h=>?_) (fun cdv A outer s H vs Q E hr h=>?_)
 ·obtain ⟨M,ln,nA,rA,s,p,xs,rows,ras,d,rfl,_⟩:=h
  rfl
 ·obtain ⟨M,ln,nA,rA,st,p,xs,rows,ras,d,rfl,gp,LS,AA,hd,k⟩:=h
  refine ⟨_,pss_cons (ps_if (pt_cmpR op_eq (pv 1) pe_int (nomark _)) (pss_one (ps_ret (pe_call (ok_start T) (hr.mono (by decide)) rfl T.x_answer_start.m T.x_answer_start.F.kp T.x_answer_start.b .nil pass0 (pa_cons (pv 0) (pa_cons (pe_ix ix_list (pv 3) pe_int (fun _ _=>rfl)) pa_nil))))) pss_nil)
   (pss_cons (ps_if (pt_cmpR op_eq (pv 1) pe_int (nomark _)) (pss_one (ps_ret (pe_call (ok_begin T) (hr.mono (by decide)) rfl T.x_answer_begin.m T.x_answer_begin.F.kp T.x_answer_begin.b .nil pass0 (pa_cons (pv 0) (pa_cons (pe_ix ix_list (pv 2) pe_int (fun _ _=>rfl)) pa_nil))))) pss_nil)
   (pss_cons (ps_if (pt_cmpR op_eq (pv 1) pe_int (nomark _)) (pss_one (ps_ret (pe_call (ok_finish T) hr rfl T.x_answer_finish.m T.x_answer_finish.F.kp T.x_answer_finish.b .nil pass0 (pa_cons (pv 0) (pa_cons (pe_ix ix_list (pv 3) pe_int (fun _ _=>rfl)) pa_nil))))) pss_nil)
   (pss_one (ps_ret (pe_call (ok_close T) (hr.mono (by decide)) rfl T.x_answer_close.m T.x_answer_close.F.kp T.x_answer_close.b .nil pass0 (pa_cons (pv 0) pa_nil)))))),?_⟩
  refine ⟨_,rfl,rfl,?_⟩
  rcases callOf_show hd gp with ⟨rfl,rfl,a,rfl,rfl⟩ | ⟨rfl,m,rfl,rfl⟩ | ⟨rfl,rfl,a,rfl,rfl⟩ | ⟨rfl,rfl⟩
  ·obtain ⟨r,rfl,h1,h2,h3⟩:=AA.one
   exact ⟨_,rfl,iteT ⟨_,rfl,_,rfl,rA,_,0,.ref r,rfl,rfl,SqL.of AA.ro,rfl,M,ln,r,st,a,rfl,LS,h1,h2,h3,k⟩⟩
  ·exact ⟨_,rfl,iteF ⟨_,rfl,rfl,_,rfl,iteT ⟨_,rfl,_,rfl,nA,_,0,.int m,rfl,rfl,SqL.of AA.nu,rfl,M,ln,st,m,rfl,LS,k⟩⟩⟩
  ·obtain ⟨r,rfl,h1,h2,h3⟩:=AA.one
   exact ⟨_,rfl,iteF ⟨_,rfl,rfl,_,rfl,iteF ⟨_,rfl,rfl,_,rfl,iteT ⟨_,rfl,_,rfl,rA,_,0,.ref r,rfl,rfl,SqL.of AA.ro,rfl,M,ln,r,st,a,rfl,LS,h1,h2,h3,k⟩⟩⟩⟩
  ·exact ⟨_,rfl,iteF ⟨_,rfl,rfl,_,rfl,iteF ⟨_,rfl,rfl,_,rfl,iteF ⟨_,rfl,M,ln,st,rfl,LS,k⟩⟩⟩⟩
theorem scCall:FnScope nmCall nmCall (defScope s_answer_call):=⟨rfl,rfl,rfl,by decide +kernel,rfl,by decide +kernel,by decide +kernel⟩
theorem ok_call (T:Tx K mg t):FnOk P w K mg base CX0 8 t.f_answer_call t.d_answer_call nmCall (spAny t (SAc t) fun _=>True):=by
 refine T.x_answer_call.F.ok scCall (fun vs H Q E h=>?_) (fun cdv A outer s H vs Q E hr h=>?_)
 ·obtain ⟨M,ln,nA,rA,s,p,xs,rows,ras,d,rfl,_⟩:=h
  rfl
 ·obtain ⟨M,ln,nA,rA,st,p,xs,rows,ras,d,rfl,_,LS,AA,hd,k⟩:=h
  obtain ⟨cA,mc,sc⟩:=T.k_CUE_CALLS
  obtain ⟨lA,ml,sl⟩:=T.k_LOOK_CALLS
  refine ⟨_,pss_cons (ps_if (pt_cmpR op_le (pv 1) (pe_const rfl T.k_LAST_SETUP_CALL) (nomark _)) (pss_one (ps_ret (pe_call (ok_setC T (SAc_stable t)) hr rfl T.x_answer_setup_call.m T.x_answer_setup_call.F.kp T.x_answer_setup_call.b .nil pass0 (pa_cons (pv 0) (pa_cons (pv 1) (pa_cons (pv 2) (pa_cons (pv 3) pa_nil))))))) pss_nil)
   (pss_cons (ps_if (pt_cmpR op_le (pv 1) (pe_const rfl T.k_LAST_PLAN_CALL) (nomark _)) (pss_one (ps_ret (pe_call (ok_planC T (SAc_stable t)) hr rfl T.x_answer_plan_call.m T.x_answer_plan_call.F.kp T.x_answer_plan_call.b .nil pass0 (pa_cons (pv 0) (pa_cons (pv 1) (pa_cons (pv 2) (pa_cons (pv 3) pa_nil))))))) pss_nil)
   (pss_cons (ps_if (pt_cmpR op_in_seq (pv 1) (pe_glob rfl mc (show RelV (.ref cA) _ from rfl)) rfl) (pss_one (ps_ret (pe_call (ok_cueC T) hr rfl T.x_answer_cue_call.m T.x_answer_cue_call.F.kp T.x_answer_cue_call.b .nil pass0 (pa_cons (pv 0) (pa_cons (pv 1) (pa_cons (pv 2) pa_nil)))))) pss_nil)
   (pss_cons (ps_if (pt_cmpR op_in_seq (pv 1) (pe_glob rfl ml (show RelV (.ref lA) _ from rfl)) rfl) (pss_one (ps_ret (pe_call (ok_lookC T) (hr.mono (by decide)) rfl T.x_answer_look_call.m T.x_answer_look_call.F.kp T.x_answer_look_call.b .nil pass0 (pa_cons (pv 0) (pa_cons (pv 1) (pa_cons (pv 2) pa_nil)))))) pss_nil)
   (pss_one (ps_ret (pe_call (ok_showC T) hr rfl T.x_answer_show_call.m T.x_answer_show_call.F.kp T.x_answer_show_call.b .nil pass0 (pa_cons (pv 0) (pa_cons (pv 1) (pa_cons (pv 2) (pa_cons (pv 3) pa_nil)))))))))),?_⟩
  refine ⟨_,rfl,_,_,rfl,rfl,_,rfl,?_⟩
  refine ifB (fun z=>?_) (fun z=>?_)
  ·exact ⟨_,rfl,_,rfl,_,rfl,_,rfl,M,ln,nA,rA,st,p,xs,rows,ras,d,rfl,of_decide_eq_true z,LS,AA,hd,k⟩
  have z4:¬ p≤4:=of_decide_eq_false z
  refine ⟨_,rfl,_,_,rfl,rfl,_,rfl,?_⟩
  refine ifB (fun y=>?_) (fun y=>?_)
  ·have y6:p≤6:=of_decide_eq_true y
   exact ⟨_,rfl,_,rfl,_,rfl,_,rfl,M,ln,nA,rA,st,p,xs,rows,ras,d,rfl,⟨by omega,y6⟩,LS,AA,hd,k⟩
  have y6:¬ p≤6:=of_decide_eq_false y
  have p19:=callOf_all hd
  have cue_:9≤p→p≤13→spThree t (fun p=>9≤p∧p≤13) [.ref ln,.int p,.ref nA] H Q E0:=fun g1 g2=>⟨M,ln,nA,st,p,xs,rows,d,rfl,⟨g1,g2⟩,LS,AA.nu,hd,k⟩
  have look_:15≤p→p≤18→spThree t (fun p=>15≤p∧p≤18) [.ref ln,.int p,.ref nA] H Q E0:=fun g1 g2=>⟨M,ln,nA,st,p,xs,rows,d,rfl,⟨g1,g2⟩,LS,AA.nu,hd,k⟩
  have show_:(p=7∨p=8∨p=14∨p=19)→spAny t (SAc t) (fun p=>p=7∨p=8∨p=14∨p=19) [.ref ln,.int p,.ref nA,.ref rA] H Q E0:=fun g=>⟨M,ln,nA,rA,st,p,xs,rows,ras,d,rfl,g,LS,AA,hd,k⟩
  refine ⟨_,rfl,cA,_,rfl,.inr (sc H),rfl,rfl,_,rfl,?_⟩
  have hp:p=7∨p=8∨p=9∨p=10∨p=11∨p=12∨p=13∨p=14∨p=15∨p=16∨p=17∨p=18∨p=19:=by omega
  rcases hp with rfl | rfl | rfl | rfl | rfl | rfl | rfl | rfl | rfl | rfl | rfl | rfl | rfl
  ·exact iteF ⟨_,rfl,lA,_,rfl,.inr (sl H),rfl,rfl,_,rfl,iteF ⟨_,rfl,_,rfl,_,rfl,_,rfl,show_ (by decide)⟩⟩
  ·exact iteF ⟨_,rfl,lA,_,rfl,.inr (sl H),rfl,rfl,_,rfl,iteF ⟨_,rfl,_,rfl,_,rfl,_,rfl,show_ (by decide)⟩⟩
  ·exact iteT ⟨_,rfl,_,rfl,_,rfl,cue_ (by decide) (by decide)⟩
  ·exact iteT ⟨_,rfl,_,rfl,_,rfl,cue_ (by decide) (by decide)⟩
  ·exact iteT ⟨_,rfl,_,rfl,_,rfl,cue_ (by decide) (by decide)⟩
  ·exact iteT ⟨_,rfl,_,rfl,_,rfl,cue_ (by decide) (by decide)⟩
  ·exact iteT ⟨_,rfl,_,rfl,_,rfl,cue_ (by decide) (by decide)⟩
  ·exact iteF ⟨_,rfl,lA,_,rfl,.inr (sl H),rfl,rfl,_,rfl,iteF ⟨_,rfl,_,rfl,_,rfl,_,rfl,show_ (by decide)⟩⟩
  ·exact iteF ⟨_,rfl,lA,_,rfl,.inr (sl H),rfl,rfl,_,rfl,iteT ⟨_,rfl,_,rfl,_,rfl,look_ (by decide) (by decide)⟩⟩
  ·exact iteF ⟨_,rfl,lA,_,rfl,.inr (sl H),rfl,rfl,_,rfl,iteT ⟨_,rfl,_,rfl,_,rfl,look_ (by decide) (by decide)⟩⟩
  ·exact iteF ⟨_,rfl,lA,_,rfl,.inr (sl H),rfl,rfl,_,rfl,iteT ⟨_,rfl,_,rfl,_,rfl,look_ (by decide) (by decide)⟩⟩
  ·exact iteF ⟨_,rfl,lA,_,rfl,.inr (sl H),rfl,rfl,_,rfl,iteT ⟨_,rfl,_,rfl,_,rfl,look_ (by decide) (by decide)⟩⟩
  ·exact iteF ⟨_,rfl,lA,_,rfl,.inr (sl H),rfl,rfl,_,rfl,iteF ⟨_,rfl,_,rfl,_,rfl,_,rfl,show_ (by decide)⟩⟩
abbrev depth:Nat:=9
abbrev shapesK:List (Int × List Int):=[(0,[0,1]),(1,[2,3]),(2,[1,2]),(3,[2,1]),(4,[0,0]),(5,[0,1]),(6,[1,0]),(7,[0,1]),(8,[1,0]),(9,[1,0]),(10,[1,0]),(11,[1,0]),(12,[1,0]),(13,[1,0]),(14,[0,1]),(15,[1,0]),(16,[0,0]),(17,[0,0]),(18,[0,0]),(19,[0,0])]
theorem shape_in {p:Int} {n k:Nat} (h:PyVbcjaj.shape p=some (n,k)):shapesK.lookup p=some [(n:Int),(k:Int)]:=by
 obtain ⟨d,hS⟩:=shp_of h (xs:=List.replicate n 0) (rows:=List.replicate k []) (List.length_replicate) (List.length_replicate)
 have e1:∀ {xs:List Int} {rows:List (List Int)},Shp p xs rows d→shapesK.lookup p=some [(xs.length:Int),(rows.length:Int)]:=fun h=>by cases h <;> rfl
 have q:=e1 hS
 rw [List.length_replicate,List.length_replicate] at q
 exact q
theorem answers_ok (T:Tx K mg t) (hD:Mp K mg "SHAPES" shapesK):FnOk P w K mg base CX0 depth t.f_answers t.d_answers ["calls"] (spAnswers K) :=
 ok_answers (kc:=3) T (SAc_stable t) (ok_call T) hD fun _ _ _ h=>shape_in h
end
section
variable {K:PySem.W.Frag} {h:Heap} {mg:Str→Option Value}
abbrev TnK (_:K.In h) (mg:Str→Option Value) (x:Str) (ns:List Int):Prop:=Tn K mg x ns
abbrev MpK (_:K.In h) (mg:Str→Option Value) (x:Str) (ks:List (Int × List Int)):Prop:=Mp K mg x ks
theorem fn_of {x:Str} {st:Stmt} {ps:List Str} {f:Addr} {oc:Value} {od an:Option Addr} {osl:Array (Option Value)} {kV doc pm cdv ct:Value} (X:K.In h) (G:h.Ns mainGlobals mg)
  (a:PySem.W.nsIn K mainGlobals x=some (some (.ref f))) (l:K.lookup f=some ⟨oc,od,.func (PySem.W.fnOf x x (defArgs st) (defBody st) (defScope st) .none kV doc pm an cdv ct),osl⟩)
  (c:PySem.W.codeIn K cdv x=true) (k:PySem.W.keepIn K (.ref f)=true)
  (b:∀ (kV doc pm:Value) (an:Option Addr) (cdv ct:Value) (us:List Value),us.length=ps.length→bindArgs (PySem.W.fnOf x x (defArgs st) (defBody st) (defScope st) .none kV doc pm an cdv ct) ⟨us,[]⟩=pure (ps.zip us)):∃ f fd,Fn K mg x st ps f fd :=
 ⟨_,_,fun_mk l c k,(fun_mk l c k).binds b,PySem.W.mg_of X G a⟩
theorem int_of {x:Str} {n:Int} {u:Nat} (X:K.In h) (G:h.Ns mainGlobals mg) (a:PySem.W.nsIn K mainGlobals x=some (some (.int n u))):Cn mg x n:=⟨_,PySem.W.mg_of X G a,_,rfl⟩
theorem tup_at {p:Addr} {o:Obj} {its:Array Value} {n:Nat} {ns:List Int} (l:K.lookup p=some o) (hc:o.cls=.type "tuple") (hd:o.data=.seq its n) (hz:its.size≤sizeLine) (hv:Vals (ns.map V.int) its.toList) (H:Hp):SqT K H p (ns.map V.int):=.inr ⟨o,its,n,l,hc,hd,hz,hv⟩
theorem tup_of {x:Str} {p:Addr} {ns:List Int} (X:K.In h) (G:h.Ns mainGlobals mg) (a:PySem.W.nsIn K mainGlobals x=some (some (.ref p))) (l:∀ H,SqT K H p (ns.map V.int)):Tn K mg x ns:=⟨_,PySem.W.mg_of X G a,l⟩
theorem keys_ok {es:Array DictEntry} (h:(es.all fun e=>match e.key with | .int k _=>e.hash == hashInt k | _=>false)=true):∀ e∈es,∃ k t,e.key=.int k t∧e.hash=hashInt k:=fun e he=>by
 have q:=Array.all_eq_true_iff_forall_mem.mp h e he
 split at q
 ·exact ⟨_,_,‹_›,eq_of_beq q⟩
 ·cases q
theorem look_mem:∀ {ks:List (Int × List Int)} {k:Int} {ns:List Int},ks.lookup k=some ns→(k,ns)∈ks
 | [],_,_,h=>by cases h
 | (a,b)::r,k,ns,h=>by
  rw [List.lookup_cons] at h
  cases e:k == a with
  | true =>
   rw [e] at h
   cases h
   rw [eq_of_beq e]
   exact List.mem_cons_self
  | false =>
   rw [e] at h
   exact List.mem_cons_of_mem _ (look_mem h)
theorem mapd_of {x:Str} {p:Addr} {o:Obj} {es:Array DictEntry} {ep:Nat} {ks:List (Int × List Int)} (X:K.In h) (G:h.Ns mainGlobals mg) (a:PySem.W.nsIn K mainGlobals x=some (some (.ref p))) (l:K.lookup p=some o) (he:o.ExactDict) (hd:o.data=.dict es ep)
  (hk:∀ e∈es,∃ k t,e.key=.int k t∧e.hash=hashInt k) (hf:∀ x∈ks,∃ U,(es.toList.find? fun e=>keyIs (.inl x.1) e.key).map (·.val)=some (.ref U)∧∀ H,SqT K H U (x.2.map V.int)):Mp K mg x ks :=
 ⟨p,fun k=>findBy keyIs es (.inl k),PySem.W.mg_of X G a,⟨⟨o,es,ep,l,he,hd,hk,fun _=>rfl⟩⟩,fun k ns e=>by
  obtain ⟨U,h1,h2⟩:=hf (k,ns) (look_mem e)
  refine ⟨U,?_,h2⟩
  show (es.find? _).map _=_
  rw [← Array.find?_toList]
  exact h1⟩
theorem ans_binds {f:Addr} {fd:FuncData} (F:Fn K mg "answers" s_answers ["calls"] f fd) (s:Shared) (us:List Value) (hu:us.length=(["calls"]:List Str).length):BindsTo s fd ⟨us,[]⟩ ((["calls"]:List Str).zip us):=by
 obtain ⟨oc,od,kV,doc,pm,an,cdv,ct,osl,rfl,lk,hcd⟩:=F.F.ex
 exact match us,hu with | [_],_=>.of_eq rfl
theorem in_of {H:Hp} {a:Addr} {xs:List V} (hO:OnlyF H) (hs:SqL K H a xs):InL K [] H a xs:=by
 rcases hs with (h | h) | h
 ·rcases hO a with e | ⟨o,u,e⟩ <;> rw [e] at h <;> cases h
 ·exact .inr ⟨h,List.not_mem_nil⟩
 ·exact .inl fun _=>.inr h
theorem cls_Item {C:Addr} {f0:Addr} {oc0 kV0 doc0 pm0 cdv0 ct0:Value} {od0 an0:Option Addr} {osl0:Array (Option Value)} (X:K.In h) (G:h.Ns mainGlobals mg) (g0:PySem.W.nsIn K mainGlobals "Item"=some (some (.ref C))) (g1:PySem.W.plainGet K C Str.empty=true) (g2:PySem.W.hasDictIn K C=true) (g3:PySem.W.plainOver K C=true) (g4:PySem.W.findIn K (.ref C) "__setattr__"=some (some (.builtin "object.__setattr__"))) (g5:PySem.W.makesIn K C=true) (g6:PySem.W.keepIn K (.ref C)=true) (n_minutes:PySem.W.findIn K (.ref C) "minutes"=some none) (n_wait:PySem.W.findIn K (.ref C) "wait"=some none) (n_need:PySem.W.findIn K (.ref C) "need"=some none) (n_leave:PySem.W.findIn K (.ref C) "leave"=some none) (n_rescue:PySem.W.findIn K (.ref C) "rescue"=some none) (a0:PySem.W.findIn K (.ref C) "__init__"=some (some (.ref f0))) (i0:PySem.W.isFn K (.ref f0)=true) (l0:K.lookup f0=some ⟨oc0,od0,.func (PySem.W.fnOf "__init__" "Item.__init__" (defArgs s_Item_init) (defBody s_Item_init) (defScope s_Item_init) .none kV0 doc0 pm0 an0 cdv0 ct0),osl0⟩) (c0:PySem.W.codeIn K cdv0 "Item.__init__"=true) (k0:PySem.W.keepIn K (.ref f0)=true) :
  ∃ C:Addr,mg "Item"=some (.ref C)∧Cls K C∧PySem.W.makesIn K C=true∧PySem.W.keepIn K (.ref C)=true∧NoAttr K C "minutes"∧NoAttr K C "wait"∧NoAttr K C "need"∧NoAttr K C "leave"∧NoAttr K C "rescue"∧(∃ f fd,PySem.W.findIn K (.ref C) "__init__"=some (some (.ref f))∧PySem.W.isFn K (.ref f)=true∧Fun K "__init__" "Item.__init__" s_Item_init f fd∧Binds K fd ["self","minutes","wait","need","leave","rescue"] []∧PySem.W.keepIn K (.ref f)=true) :=
 ⟨C,PySem.W.mg_of X G g0,⟨g1,g2,g3,g4⟩,g5,g6,n_minutes,n_wait,n_need,n_leave,n_rescue,⟨_,_,a0,i0,fun_mk l0 c0 k0,(fun_mk (st:=s_Item_init) l0 c0 k0).binds (fun _ _ _ _ _ _ us hl=>match us,hl with | [_,_,_,_,_,_],_=>rfl),k0⟩⟩
theorem cls_House {C:Addr} {f0:Addr} {oc0 kV0 doc0 pm0 cdv0 ct0:Value} {od0 an0:Option Addr} {osl0:Array (Option Value)} (X:K.In h) (G:h.Ns mainGlobals mg) (g0:PySem.W.nsIn K mainGlobals "House"=some (some (.ref C))) (g1:PySem.W.plainGet K C Str.empty=true) (g2:PySem.W.hasDictIn K C=true) (g3:PySem.W.plainOver K C=true) (g4:PySem.W.findIn K (.ref C) "__setattr__"=some (some (.builtin "object.__setattr__"))) (g5:PySem.W.makesIn K C=true) (g6:PySem.W.keepIn K (.ref C)=true) (n_props:PySem.W.findIn K (.ref C) "props"=some none) (n_tricks:PySem.W.findIn K (.ref C) "tricks"=some none) (n_resets:PySem.W.findIn K (.ref C) "resets"=some none) (n_limit:PySem.W.findIn K (.ref C) "limit"=some none) (n_delay:PySem.W.findIn K (.ref C) "delay"=some none) (n_beliefs:PySem.W.findIn K (.ref C) "beliefs"=some none) (a0:PySem.W.findIn K (.ref C) "__init__"=some (some (.ref f0))) (i0:PySem.W.isFn K (.ref f0)=true) (l0:K.lookup f0=some ⟨oc0,od0,.func (PySem.W.fnOf "__init__" "House.__init__" (defArgs s_House_init) (defBody s_House_init) (defScope s_House_init) .none kV0 doc0 pm0 an0 cdv0 ct0),osl0⟩) (c0:PySem.W.codeIn K cdv0 "House.__init__"=true) (k0:PySem.W.keepIn K (.ref f0)=true) :
  ∃ C:Addr,mg "House"=some (.ref C)∧Cls K C∧PySem.W.makesIn K C=true∧PySem.W.keepIn K (.ref C)=true∧NoAttr K C "props"∧NoAttr K C "tricks"∧NoAttr K C "resets"∧NoAttr K C "limit"∧NoAttr K C "delay"∧NoAttr K C "beliefs"∧(∃ f fd,PySem.W.findIn K (.ref C) "__init__"=some (some (.ref f))∧PySem.W.isFn K (.ref f)=true∧Fun K "__init__" "House.__init__" s_House_init f fd∧Binds K fd ["self","props"] []∧PySem.W.keepIn K (.ref f)=true) :=
 ⟨C,PySem.W.mg_of X G g0,⟨g1,g2,g3,g4⟩,g5,g6,n_props,n_tricks,n_resets,n_limit,n_delay,n_beliefs,⟨_,_,a0,i0,fun_mk l0 c0 k0,(fun_mk (st:=s_House_init) l0 c0 k0).binds (fun _ _ _ _ _ _ us hl=>match us,hl with | [_,_],_=>rfl),k0⟩⟩
theorem cls_Cue {C:Addr} {f0:Addr} {oc0 kV0 doc0 pm0 cdv0 ct0:Value} {od0 an0:Option Addr} {osl0:Array (Option Value)} (X:K.In h) (G:h.Ns mainGlobals mg) (g0:PySem.W.nsIn K mainGlobals "Cue"=some (some (.ref C))) (g1:PySem.W.plainGet K C Str.empty=true) (g2:PySem.W.hasDictIn K C=true) (g3:PySem.W.plainOver K C=true) (g4:PySem.W.findIn K (.ref C) "__setattr__"=some (some (.builtin "object.__setattr__"))) (g5:PySem.W.makesIn K C=true) (g6:PySem.W.keepIn K (.ref C)=true) (n_serial:PySem.W.findIn K (.ref C) "serial"=some none) (n_number:PySem.W.findIn K (.ref C) "number"=some none) (n_value:PySem.W.findIn K (.ref C) "value"=some none) (n_age:PySem.W.findIn K (.ref C) "age"=some none) (a0:PySem.W.findIn K (.ref C) "__init__"=some (some (.ref f0))) (i0:PySem.W.isFn K (.ref f0)=true) (l0:K.lookup f0=some ⟨oc0,od0,.func (PySem.W.fnOf "__init__" "Cue.__init__" (defArgs s_Cue_init) (defBody s_Cue_init) (defScope s_Cue_init) .none kV0 doc0 pm0 an0 cdv0 ct0),osl0⟩) (c0:PySem.W.codeIn K cdv0 "Cue.__init__"=true) (k0:PySem.W.keepIn K (.ref f0)=true) :
  ∃ C:Addr,mg "Cue"=some (.ref C)∧Cls K C∧PySem.W.makesIn K C=true∧PySem.W.keepIn K (.ref C)=true∧NoAttr K C "serial"∧NoAttr K C "number"∧NoAttr K C "value"∧NoAttr K C "age"∧(∃ f fd,PySem.W.findIn K (.ref C) "__init__"=some (some (.ref f))∧PySem.W.isFn K (.ref f)=true∧Fun K "__init__" "Cue.__init__" s_Cue_init f fd∧Binds K fd ["self","serial","number","value","age"] []∧PySem.W.keepIn K (.ref f)=true) :=
 ⟨C,PySem.W.mg_of X G g0,⟨g1,g2,g3,g4⟩,g5,g6,n_serial,n_number,n_value,n_age,⟨_,_,a0,i0,fun_mk l0 c0 k0,(fun_mk (st:=s_Cue_init) l0 c0 k0).binds (fun _ _ _ _ _ _ us hl=>match us,hl with | [_,_,_,_,_],_=>rfl),k0⟩⟩
theorem cls_Done {C:Addr} {f0:Addr} {oc0 kV0 doc0 pm0 cdv0 ct0:Value} {od0 an0:Option Addr} {osl0:Array (Option Value)} (X:K.In h) (G:h.Ns mainGlobals mg) (g0:PySem.W.nsIn K mainGlobals "Done"=some (some (.ref C))) (g1:PySem.W.plainGet K C Str.empty=true) (g2:PySem.W.hasDictIn K C=true) (g3:PySem.W.plainOver K C=true) (g4:PySem.W.findIn K (.ref C) "__setattr__"=some (some (.builtin "object.__setattr__"))) (g5:PySem.W.makesIn K C=true) (g6:PySem.W.keepIn K (.ref C)=true) (n_number:PySem.W.findIn K (.ref C) "number"=some none) (n_taken:PySem.W.findIn K (.ref C) "taken"=some none) (n_rescued:PySem.W.findIn K (.ref C) "rescued"=some none) (a0:PySem.W.findIn K (.ref C) "__init__"=some (some (.ref f0))) (i0:PySem.W.isFn K (.ref f0)=true) (l0:K.lookup f0=some ⟨oc0,od0,.func (PySem.W.fnOf "__init__" "Done.__init__" (defArgs s_Done_init) (defBody s_Done_init) (defScope s_Done_init) .none kV0 doc0 pm0 an0 cdv0 ct0),osl0⟩) (c0:PySem.W.codeIn K cdv0 "Done.__init__"=true) (k0:PySem.W.keepIn K (.ref f0)=true) :
  ∃ C:Addr,mg "Done"=some (.ref C)∧Cls K C∧PySem.W.makesIn K C=true∧PySem.W.keepIn K (.ref C)=true∧NoAttr K C "number"∧NoAttr K C "taken"∧NoAttr K C "rescued"∧(∃ f fd,PySem.W.findIn K (.ref C) "__init__"=some (some (.ref f))∧PySem.W.isFn K (.ref f)=true∧Fun K "__init__" "Done.__init__" s_Done_init f fd∧Binds K fd ["self","number","taken","rescued"] []∧PySem.W.keepIn K (.ref f)=true) :=
 ⟨C,PySem.W.mg_of X G g0,⟨g1,g2,g3,g4⟩,g5,g6,n_number,n_taken,n_rescued,⟨_,_,a0,i0,fun_mk l0 c0 k0,(fun_mk (st:=s_Done_init) l0 c0 k0).binds (fun _ _ _ _ _ _ us hl=>match us,hl with | [_,_,_,_],_=>rfl),k0⟩⟩
theorem cls_Show {C:Addr} {f0:Addr} {oc0 kV0 doc0 pm0 cdv0 ct0:Value} {od0 an0:Option Addr} {osl0:Array (Option Value)} {f1:Addr} {oc1 kV1 doc1 pm1 cdv1 ct1:Value} {od1 an1:Option Addr} {osl1:Array (Option Value)} (X:K.In h) (G:h.Ns mainGlobals mg) (g0:PySem.W.nsIn K mainGlobals "Show"=some (some (.ref C))) (g1:PySem.W.plainGet K C Str.empty=true) (g2:PySem.W.hasDictIn K C=true) (g3:PySem.W.plainOver K C=true) (g4:PySem.W.findIn K (.ref C) "__setattr__"=some (some (.builtin "object.__setattr__"))) (g5:PySem.W.makesIn K C=true) (g6:PySem.W.keepIn K (.ref C)=true) (n_beliefs:PySem.W.findIn K (.ref C) "beliefs"=some none) (n_actual:PySem.W.findIn K (.ref C) "actual"=some none) (n_serial:PySem.W.findIn K (.ref C) "serial"=some none) (n_done:PySem.W.findIn K (.ref C) "done"=some none) (n_minutes:PySem.W.findIn K (.ref C) "minutes"=some none) (n_wire:PySem.W.findIn K (.ref C) "wire"=some none) (n_doing:PySem.W.findIn K (.ref C) "doing"=some none) (n_sent:PySem.W.findIn K (.ref C) "sent"=some none) (n_ticks:PySem.W.findIn K (.ref C) "ticks"=some none) (n_taken:PySem.W.findIn K (.ref C) "taken"=some none) (a0:PySem.W.findIn K (.ref C) "__init__"=some (some (.ref f0))) (i0:PySem.W.isFn K (.ref f0)=true) (l0:K.lookup f0=some ⟨oc0,od0,.func (PySem.W.fnOf "__init__" "Show.__init__" (defArgs s_Show_init) (defBody s_Show_init) (defScope s_Show_init) .none kV0 doc0 pm0 an0 cdv0 ct0),osl0⟩) (c0:PySem.W.codeIn K cdv0 "Show.__init__"=true) (k0:PySem.W.keepIn K (.ref f0)=true) (a1:PySem.W.findIn K (.ref C) "turn_to"=some (some (.ref f1))) (i1:PySem.W.isFn K (.ref f1)=true) (l1:K.lookup f1=some ⟨oc1,od1,.func (PySem.W.fnOf "turn_to" "Show.turn_to" (defArgs s_Show_turn_to) (defBody s_Show_turn_to) (defScope s_Show_turn_to) .none kV1 doc1 pm1 an1 cdv1 ct1),osl1⟩) (c1:PySem.W.codeIn K cdv1 "Show.turn_to"=true) (k1:PySem.W.keepIn K (.ref f1)=true) :
  ∃ C:Addr,mg "Show"=some (.ref C)∧Cls K C∧PySem.W.makesIn K C=true∧PySem.W.keepIn K (.ref C)=true∧NoAttr K C "beliefs"∧NoAttr K C "actual"∧NoAttr K C "serial"∧NoAttr K C "done"∧NoAttr K C "minutes"∧NoAttr K C "wire"∧NoAttr K C "doing"∧NoAttr K C "sent"∧NoAttr K C "ticks"∧NoAttr K C "taken"∧(∃ f fd,PySem.W.findIn K (.ref C) "__init__"=some (some (.ref f))∧PySem.W.isFn K (.ref f)=true∧Fun K "__init__" "Show.__init__" s_Show_init f fd∧Binds K fd ["self","beliefs","actual"] []∧PySem.W.keepIn K (.ref f)=true)∧(∃ f fd,PySem.W.findIn K (.ref C) "turn_to"=some (some (.ref f))∧PySem.W.isFn K (.ref f)=true∧Fun K "turn_to" "Show.turn_to" s_Show_turn_to f fd∧Binds K fd ["self","number"] []∧PySem.W.keepIn K (.ref f)=true) :=
 ⟨C,PySem.W.mg_of X G g0,⟨g1,g2,g3,g4⟩,g5,g6,n_beliefs,n_actual,n_serial,n_done,n_minutes,n_wire,n_doing,n_sent,n_ticks,n_taken,⟨_,_,a0,i0,fun_mk l0 c0 k0,(fun_mk (st:=s_Show_init) l0 c0 k0).binds (fun _ _ _ _ _ _ us hl=>match us,hl with | [_,_,_],_=>rfl),k0⟩,⟨_,_,a1,i1,fun_mk l1 c1 k1,(fun_mk (st:=s_Show_turn_to) l1 c1 k1).binds (fun _ _ _ _ _ _ us hl=>match us,hl with | [_,_],_=>rfl),k1⟩⟩
theorem cls_Line {C:Addr} {f0:Addr} {oc0 kV0 doc0 pm0 cdv0 ct0:Value} {od0 an0:Option Addr} {osl0:Array (Option Value)} (X:K.In h) (G:h.Ns mainGlobals mg) (g0:PySem.W.nsIn K mainGlobals "Line"=some (some (.ref C))) (g1:PySem.W.plainGet K C Str.empty=true) (g2:PySem.W.hasDictIn K C=true) (g3:PySem.W.plainOver K C=true) (g4:PySem.W.findIn K (.ref C) "__setattr__"=some (some (.builtin "object.__setattr__"))) (g5:PySem.W.makesIn K C=true) (g6:PySem.W.keepIn K (.ref C)=true) (n_house:PySem.W.findIn K (.ref C) "house"=some none) (n_show:PySem.W.findIn K (.ref C) "show"=some none) (a0:PySem.W.findIn K (.ref C) "__init__"=some (some (.ref f0))) (i0:PySem.W.isFn K (.ref f0)=true) (l0:K.lookup f0=some ⟨oc0,od0,.func (PySem.W.fnOf "__init__" "Line.__init__" (defArgs s_Line_init) (defBody s_Line_init) (defScope s_Line_init) .none kV0 doc0 pm0 an0 cdv0 ct0),osl0⟩) (c0:PySem.W.codeIn K cdv0 "Line.__init__"=true) (k0:PySem.W.keepIn K (.ref f0)=true) :
  ∃ C:Addr,mg "Line"=some (.ref C)∧Cls K C∧PySem.W.makesIn K C=true∧PySem.W.keepIn K (.ref C)=true∧NoAttr K C "house"∧NoAttr K C "show"∧(∃ f fd,PySem.W.findIn K (.ref C) "__init__"=some (some (.ref f))∧PySem.W.isFn K (.ref f)=true∧Fun K "__init__" "Line.__init__" s_Line_init f fd∧Binds K fd ["self"] []∧PySem.W.keepIn K (.ref f)=true) :=
 ⟨C,PySem.W.mg_of X G g0,⟨g1,g2,g3,g4⟩,g5,g6,n_house,n_show,⟨_,_,a0,i0,fun_mk l0 c0 k0,(fun_mk (st:=s_Line_init) l0 c0 k0).binds (fun _ _ _ _ _ _ us hl=>match us,hl with | [_],_=>rfl),k0⟩⟩
theorem cls_Plan {C:Addr} {f0:Addr} {oc0 kV0 doc0 pm0 cdv0 ct0:Value} {od0 an0:Option Addr} {osl0:Array (Option Value)} (X:K.In h) (G:h.Ns mainGlobals mg) (g0:PySem.W.nsIn K mainGlobals "Plan"=some (some (.ref C))) (g1:PySem.W.plainGet K C Str.empty=true) (g2:PySem.W.hasDictIn K C=true) (g3:PySem.W.plainOver K C=true) (g4:PySem.W.findIn K (.ref C) "__setattr__"=some (some (.builtin "object.__setattr__"))) (g5:PySem.W.makesIn K C=true) (g6:PySem.W.keepIn K (.ref C)=true) (n_order:PySem.W.findIn K (.ref C) "order"=some none) (n_minutes:PySem.W.findIn K (.ref C) "minutes"=some none) (n_done:PySem.W.findIn K (.ref C) "done"=some none) (n_beliefs:PySem.W.findIn K (.ref C) "beliefs"=some none) (a0:PySem.W.findIn K (.ref C) "__init__"=some (some (.ref f0))) (i0:PySem.W.isFn K (.ref f0)=true) (l0:K.lookup f0=some ⟨oc0,od0,.func (PySem.W.fnOf "__init__" "Plan.__init__" (defArgs s_Plan_init) (defBody s_Plan_init) (defScope s_Plan_init) .none kV0 doc0 pm0 an0 cdv0 ct0),osl0⟩) (c0:PySem.W.codeIn K cdv0 "Plan.__init__"=true) (k0:PySem.W.keepIn K (.ref f0)=true) :
  ∃ C:Addr,mg "Plan"=some (.ref C)∧Cls K C∧PySem.W.makesIn K C=true∧PySem.W.keepIn K (.ref C)=true∧NoAttr K C "order"∧NoAttr K C "minutes"∧NoAttr K C "done"∧NoAttr K C "beliefs"∧(∃ f fd,PySem.W.findIn K (.ref C) "__init__"=some (some (.ref f))∧PySem.W.isFn K (.ref f)=true∧Fun K "__init__" "Plan.__init__" s_Plan_init f fd∧Binds K fd ["self","order","minutes","done","beliefs"] []∧PySem.W.keepIn K (.ref f)=true) :=
 ⟨C,PySem.W.mg_of X G g0,⟨g1,g2,g3,g4⟩,g5,g6,n_order,n_minutes,n_done,n_beliefs,⟨_,_,a0,i0,fun_mk l0 c0 k0,(fun_mk (st:=s_Plan_init) l0 c0 k0).binds (fun _ _ _ _ _ _ us hl=>match us,hl with | [_,_,_,_,_],_=>rfl),k0⟩⟩
theorem cls_Reader {C:Addr} {f0:Addr} {oc0 kV0 doc0 pm0 cdv0 ct0:Value} {od0 an0:Option Addr} {osl0:Array (Option Value)} {f1:Addr} {oc1 kV1 doc1 pm1 cdv1 ct1:Value} {od1 an1:Option Addr} {osl1:Array (Option Value)} {f2:Addr} {oc2 kV2 doc2 pm2 cdv2 ct2:Value} {od2 an2:Option Addr} {osl2:Array (Option Value)} {f3:Addr} {oc3 kV3 doc3 pm3 cdv3 ct3:Value} {od3 an3:Option Addr} {osl3:Array (Option Value)} (X:K.In h) (G:h.Ns mainGlobals mg) (g0:PySem.W.nsIn K mainGlobals "Reader"=some (some (.ref C))) (g1:PySem.W.plainGet K C Str.empty=true) (g2:PySem.W.hasDictIn K C=true) (g3:PySem.W.plainOver K C=true) (g4:PySem.W.findIn K (.ref C) "__setattr__"=some (some (.builtin "object.__setattr__"))) (g5:PySem.W.makesIn K C=true) (g6:PySem.W.keepIn K (.ref C)=true) (n_calls:PySem.W.findIn K (.ref C) "calls"=some none) (n_place:PySem.W.findIn K (.ref C) "place"=some none) (a0:PySem.W.findIn K (.ref C) "__init__"=some (some (.ref f0))) (i0:PySem.W.isFn K (.ref f0)=true) (l0:K.lookup f0=some ⟨oc0,od0,.func (PySem.W.fnOf "__init__" "Reader.__init__" (defArgs s_Reader_init) (defBody s_Reader_init) (defScope s_Reader_init) .none kV0 doc0 pm0 an0 cdv0 ct0),osl0⟩) (c0:PySem.W.codeIn K cdv0 "Reader.__init__"=true) (k0:PySem.W.keepIn K (.ref f0)=true) (a1:PySem.W.findIn K (.ref C) "at_end"=some (some (.ref f1))) (i1:PySem.W.isFn K (.ref f1)=true) (l1:K.lookup f1=some ⟨oc1,od1,.func (PySem.W.fnOf "at_end" "Reader.at_end" (defArgs s_Reader_at_end) (defBody s_Reader_at_end) (defScope s_Reader_at_end) .none kV1 doc1 pm1 an1 cdv1 ct1),osl1⟩) (c1:PySem.W.codeIn K cdv1 "Reader.at_end"=true) (k1:PySem.W.keepIn K (.ref f1)=true) (a2:PySem.W.findIn K (.ref C) "take"=some (some (.ref f2))) (i2:PySem.W.isFn K (.ref f2)=true) (l2:K.lookup f2=some ⟨oc2,od2,.func (PySem.W.fnOf "take" "Reader.take" (defArgs s_Reader_take) (defBody s_Reader_take) (defScope s_Reader_take) .none kV2 doc2 pm2 an2 cdv2 ct2),osl2⟩) (c2:PySem.W.codeIn K cdv2 "Reader.take"=true) (k2:PySem.W.keepIn K (.ref f2)=true) (a3:PySem.W.findIn K (.ref C) "take_row"=some (some (.ref f3))) (i3:PySem.W.isFn K (.ref f3)=true) (l3:K.lookup f3=some ⟨oc3,od3,.func (PySem.W.fnOf "take_row" "Reader.take_row" (defArgs s_Reader_take_row) (defBody s_Reader_take_row) (defScope s_Reader_take_row) .none kV3 doc3 pm3 an3 cdv3 ct3),osl3⟩) (c3:PySem.W.codeIn K cdv3 "Reader.take_row"=true) (k3:PySem.W.keepIn K (.ref f3)=true) :
  ∃ C:Addr,mg "Reader"=some (.ref C)∧Cls K C∧PySem.W.makesIn K C=true∧PySem.W.keepIn K (.ref C)=true∧NoAttr K C "calls"∧NoAttr K C "place"∧(∃ f fd,PySem.W.findIn K (.ref C) "__init__"=some (some (.ref f))∧PySem.W.isFn K (.ref f)=true∧Fun K "__init__" "Reader.__init__" s_Reader_init f fd∧Binds K fd ["self","calls"] []∧PySem.W.keepIn K (.ref f)=true)∧(∃ f fd,PySem.W.findIn K (.ref C) "at_end"=some (some (.ref f))∧PySem.W.isFn K (.ref f)=true∧Fun K "at_end" "Reader.at_end" s_Reader_at_end f fd∧Binds K fd ["self"] []∧PySem.W.keepIn K (.ref f)=true)∧(∃ f fd,PySem.W.findIn K (.ref C) "take"=some (some (.ref f))∧PySem.W.isFn K (.ref f)=true∧Fun K "take" "Reader.take" s_Reader_take f fd∧Binds K fd ["self"] []∧PySem.W.keepIn K (.ref f)=true)∧(∃ f fd,PySem.W.findIn K (.ref C) "take_row"=some (some (.ref f))∧PySem.W.isFn K (.ref f)=true∧Fun K "take_row" "Reader.take_row" s_Reader_take_row f fd∧Binds K fd ["self"] []∧PySem.W.keepIn K (.ref f)=true) :=
 ⟨C,PySem.W.mg_of X G g0,⟨g1,g2,g3,g4⟩,g5,g6,n_calls,n_place,⟨_,_,a0,i0,fun_mk l0 c0 k0,(fun_mk (st:=s_Reader_init) l0 c0 k0).binds (fun _ _ _ _ _ _ us hl=>match us,hl with | [_,_],_=>rfl),k0⟩,⟨_,_,a1,i1,fun_mk l1 c1 k1,(fun_mk (st:=s_Reader_at_end) l1 c1 k1).binds (fun _ _ _ _ _ _ us hl=>match us,hl with | [_],_=>rfl),k1⟩,⟨_,_,a2,i2,fun_mk l2 c2 k2,(fun_mk (st:=s_Reader_take) l2 c2 k2).binds (fun _ _ _ _ _ _ us hl=>match us,hl with | [_],_=>rfl),k2⟩,⟨_,_,a3,i3,fun_mk l3 c3 k3,(fun_mk (st:=s_Reader_take_row) l3 c3 k3).binds (fun _ _ _ _ _ _ us hl=>match us,hl with | [_],_=>rfl),k3⟩⟩
end
end Cs
namespace PySem.W.Fast
theorem tw14884684851618061797:True:=trivial
theorem tw4323975377702123979:True:=trivial
theorem tw3215312318639386768:True:=trivial
theorem tw11579031928876508961:True:=trivial
theorem tw10371481043262050014:True:=trivial
theorem tw2396875807387287449:True:=trivial
theorem tw15420361243443786750:True:=trivial
theorem tw702860586427455330:True:=trivial
theorem tw18223203807271443453:True:=trivial
theorem tw4673725348560325819:True:=trivial
theorem tw6226010338070830451:True:=trivial
theorem tw18391904746584683813:True:=trivial
theorem tw3518778106070280588:True:=trivial
theorem tw14005961495685439273:True:=trivial
theorem tw9828965809247566690:True:=trivial
theorem tw9362703673297098201:True:=trivial
theorem tw1239772411731567277:True:=trivial
theorem tw16892138378362732142:True:=trivial
theorem tw7617223256812026481:True:=trivial
theorem tw13795920297079644708:True:=trivial
theorem tw11627445264728387108:True:=trivial
theorem tw9861609601236199540:True:=trivial
theorem tw6873452924343020502:True:=trivial
theorem tw10746672277085774586:True:=trivial
theorem tw16684289960425059981:True:=trivial
theorem tw11650246594748311226:True:=trivial
theorem tw14646975781969360749:True:=trivial
theorem tw1826686263601708799:True:=trivial
theorem tw3975830438586134867:True:=trivial
theorem tw240200017844210611:True:=trivial
theorem tw6441025292984016680:True:=trivial
theorem tw4345876694362482525:True:=trivial
theorem tw844794687531276574:True:=trivial
theorem tw1769969206588485189:True:=trivial
theorem tw4845808193650349471:True:=trivial
theorem tw513084296594409616:True:=trivial
theorem tw9262860702697753450:True:=trivial
theorem tw7731123000638188270:True:=trivial
theorem tw9457506888163694628:True:=trivial
theorem tw16636009735222147982:True:=trivial
theorem tw13075583995152123512:True:=trivial
theorem tw11619953134032591941:True:=trivial
theorem tw4713523838638068363:True:=trivial
theorem tw5230244008670722261:True:=trivial
theorem tw18096996551678493992:True:=trivial
theorem tw17705282060905217787:True:=trivial
theorem tw11838898709261316614:True:=trivial
theorem tw14737883394878246900:True:=trivial
theorem tw1338951683762035703:True:=trivial
theorem tw15702649107675028652:True:=trivial
theorem tw1066688319299912260:True:=trivial
theorem tw18374270832798070009:True:=trivial
theorem tw3655431535526142266:True:=trivial
theorem tw544337300726576767:True:=trivial
theorem tw15988173820070107664:True:=trivial
theorem tw9891946778696352698:True:=trivial
theorem tw17578401711662000314:True:=trivial
theorem tw13657996020934210197:True:=trivial
theorem tw12189763030049769051:True:=trivial
theorem tw2184657043615529070:True:=trivial
theorem tw9694475704519980772:True:=trivial
theorem tw3569509684604513802:True:=trivial
theorem tw7787571602765122017:True:=trivial
theorem tw5352133910607715387:True:=trivial
theorem tw18101128261363013123:True:=trivial
theorem tw17260124173656266102:True:=trivial
theorem tw10020766614678673542:True:=trivial
theorem tw1232376376490346617:True:=trivial
theorem tw15918341423433829706:True:=trivial
theorem tw1462226505995352044:True:=trivial
theorem tw4001761997308867748:True:=trivial
theorem tw7773796446994325232:True:=trivial
theorem tw7904075775505421634:True:=trivial
theorem tw2672798012398183935:True:=trivial
theorem tw7734615794000573659:True:=trivial
theorem tw11299901634662808757:True:=trivial
theorem tw11140388167064121752:True:=trivial
theorem tw8689735829825593338:True:=trivial
theorem tw670787231164786888:True:=trivial
theorem tw9747869147271732495:True:=trivial
theorem tw17773048974937564205:True:=trivial
theorem tw9916442884068222694:True:=trivial
theorem tw1548158727202602754:True:=trivial
theorem tw7728553224537698774:True:=trivial
theorem tw9141348828522419067:True:=trivial
theorem tw9610645615855991254:True:=trivial
theorem tw16367136059032065373:True:=trivial
theorem tw5726725509373652181:True:=trivial
theorem tw7500295450011436603:True:=trivial
theorem tw17208858693721402831:True:=trivial
theorem tw1170810111305980206:True:=trivial
theorem tw14213012403951754218:True:=trivial
theorem tw15537371696957667804:True:=trivial
theorem tw13091119194446231975:True:=trivial
theorem tw12929587999203828083:True:=trivial
theorem tw2044042579451400305:True:=trivial
theorem tw11160638645373257604:True:=trivial
theorem tw14201063076582319284:True:=trivial
theorem tw9302496144464366094:True:=trivial
theorem tw4342328897147881348:True:=trivial
theorem tw9469415364597444890:True:=trivial
theorem tw14783336186908446053:True:=trivial
theorem tw17609830238531182206:True:=trivial
theorem tw4267434295448854559:True:=trivial
theorem tw17554989206975844414:True:=trivial
theorem tw4349623616570917163:True:=trivial
theorem tw12632329477411419057:True:=trivial
theorem tw1670785914639156563:True:=trivial
theorem tw13498839566121405906:True:=trivial
theorem tw4920969117628359807:True:=trivial
theorem tw9572490463386372182:True:=trivial
theorem tw11974661727234735566:True:=trivial
theorem tw15597111451438309837:True:=trivial
theorem tw3554414852607712344:True:=trivial
theorem tw14464693601569765093:True:=trivial
theorem tw12599299389126463696:True:=trivial
theorem tw2735285991458419709:True:=trivial
theorem tw1118259505717193755:True:=trivial
theorem tw12086340891862732409:True:=trivial
theorem tw14835827489478931217:True:=trivial
theorem tw10250590504581490400:True:=trivial
theorem tw16901342708708127093:True:=trivial
theorem tw15302481110841444363:True:=trivial
theorem tw14533454588715945210:True:=trivial
theorem tw4717685494505539948:True:=trivial
theorem tw13871822917882296918:True:=trivial
theorem tw7897508444378632555:True:=trivial
theorem tw11579217735684304679:True:=trivial
theorem tw403168406673254696:True:=trivial
theorem tw7645020752304210749:True:=trivial
theorem tw5279539360193166858:True:=trivial
theorem tw17583643243227384547:True:=trivial
theorem tw2208532853458225180:True:=trivial
theorem tw2710489201601057639:True:=trivial
theorem tw2755816994594007455:True:=trivial
theorem tw11202906296060759305:True:=trivial
theorem tw12065939440553290975:True:=trivial
theorem tw4588103793296407565:True:=trivial
theorem tw12890063527123703965:True:=trivial
theorem tw2677925548832511568:True:=trivial
theorem tw7169407391556788004:True:=trivial
theorem tw267293862218429331:True:=trivial
theorem tw8398992576762901649:True:=trivial
theorem tw16354956635152511010:True:=trivial
theorem tw17028657265740889317:True:=trivial
theorem tw9587658668969942596:True:=trivial
theorem tw3874087394118794254:True:=trivial
theorem tw14059715758977058615:True:=trivial
theorem tw10038621463026209455:True:=trivial
theorem tw16965918770322665778:True:=trivial
theorem tw9549221605491915551:True:=trivial
theorem tw3471962442219920522:True:=trivial
theorem tw10374722731072759632:True:=trivial
theorem tw3038681165770023535:True:=trivial
theorem tw14395410072770510879:True:=trivial
theorem tw8472115095007842742:True:=trivial
theorem tw13331356773529444195:True:=trivial
theorem tw8028496877213657650:True:=trivial
theorem tw10281334033428634682:True:=trivial
theorem tw10851422321699190614:True:=trivial
theorem tw16336274088047491093:True:=trivial
theorem tw9557799336411362733:True:=trivial
theorem tw18336534300330036466:True:=trivial
theorem tw15158094447105446593:True:=trivial
theorem tw17467958602342973485:True:=trivial
theorem tw16126552329233155368:True:=trivial
theorem tw8695343028049161683:True:=trivial
theorem tw16165389868807632792:True:=trivial
theorem tw17391470857258232462:True:=trivial
theorem tw10435566252632371742:True:=trivial
theorem tw16960842676040368959:True:=trivial
theorem tw9349739423630561334:True:=trivial
theorem tw14937859362960822647:True:=trivial
theorem tw1413309889798473474:True:=trivial
theorem tw13760556606712868253:True:=trivial
theorem tw15192327916347948378:True:=trivial
theorem tw497927537902121188:True:=trivial
theorem tw13164801571065537634:True:=trivial
theorem tw2714830207728157889:True:=trivial
theorem tw9831475012521050673:True:=trivial
theorem tw4076070804643544851:True:=trivial
theorem tw4036282832452149561:True:=trivial
theorem tw15200710612924875588:True:=trivial
theorem tw15412068001460081882:True:=trivial
theorem tw7381130337008139511:True:=trivial
theorem tw7215217314223251601:True:=trivial
theorem tw11670065067566411142:True:=trivial
theorem tw14396125288093453658:True:=trivial
theorem tw12868434105426217932:True:=trivial
theorem tw16186578288202399155:True:=trivial
theorem tw6822305041009499479:True:=trivial
theorem tw17334895355321497418:True:=trivial
theorem tw6985556477923661598:True:=trivial
theorem tw18034500258898588588:True:=trivial
theorem tw10819962405569054721:True:=trivial
theorem tw15324973153271805554:True:=trivial
theorem tw4039805244476587671:True:=trivial
theorem tw6173128061456065940:True:=trivial
theorem tw14845267253447796010:True:=trivial
theorem tw8298387121643593374:True:=trivial
theorem tw4177729778358315131:True:=trivial
theorem tw17615583675565388616:True:=trivial
theorem tw14266244332776498281:True:=trivial
theorem tw17479419316487055026:True:=trivial
theorem tw5909352182036463823:True:=trivial
theorem tw13778440742180006775:True:=trivial
theorem tw3203196365356957693:True:=trivial
theorem tw12694603859107711115:True:=trivial
theorem tw1821587618241912793:True:=trivial
theorem tw17367943156496002957:True:=trivial
theorem tw17883831806598644239:True:=trivial
theorem tw3392959912552056263:True:=trivial
theorem tw546730318912919884:True:=trivial
theorem tw12454838682692684634:True:=trivial
theorem tw12568871674446337995:True:=trivial
theorem tw14767970180039328929:True:=trivial
theorem tw9454465185798760249:True:=trivial
theorem tw7053595230491839712:True:=trivial
theorem tw12258463575356012461:True:=trivial
theorem tw10176264676850389283:True:=trivial
theorem tw2874571891725754199:True:=trivial
theorem tw11918870638287297190:True:=trivial
theorem tw8736409288774974795:True:=trivial
theorem tw5930458747615902928:True:=trivial
theorem tw14169508859156474462:True:=trivial
theorem tw7624619541757041994:True:=trivial
theorem tw3242887410081989407:True:=trivial
theorem tw10888891504512783189:True:=trivial
theorem tw14610032221407059275:True:=trivial
theorem tw16255646542752976878:True:=trivial
theorem tw13260438478374343431:True:=trivial
theorem tw7916373373196501209:True:=trivial
theorem tw18261287906781504840:True:=trivial
theorem tw17629900848547215290:True:=trivial
theorem tw7240609971453289409:True:=trivial
theorem tw6933361765456719077:True:=trivial
theorem tw295973197072762478:True:=trivial
theorem tw6454448773571597567:True:=trivial
theorem tw15701899508962439551:True:=trivial
theorem tw7131738395113056562:True:=trivial
theorem tw2638170324024181403:True:=trivial
theorem tw6655318559037597152:True:=trivial
theorem tw8360755562691308911:True:=trivial
theorem tw9036731364035593968:True:=trivial
theorem tw17024981636261255728:True:=trivial
theorem tw2879904919948400787:True:=trivial
theorem tw2944997949821260975:True:=trivial
theorem tw1720168128163218634:True:=trivial
theorem tw2789598966829642570:True:=trivial
theorem tw9110374125974812632:True:=trivial
end PySem.W.Fast
open PySem PySem.W PyProof.Rows
set_option maxRecDepth 100000 in
set_option maxHeartbeats 0 in
theorem PySem.Challenge.cw_cueshows_s01_answers_holds : PySem.Challenge.rw_cueshows_s01_answers.Holds := by
 w_on;k_headS;(case hw=>exact ⟨[.list [.int 4]],by decide +kernel,by decide +kernel⟩)
 k_fillS
 refine L2.walk_specK (r:=PySem.Challenge.rw_cueshows_s01_answers) (k:=Cs.depth) (CX:=L2.CX0) (ps:=["calls"]) (sp:=Cs.spAnswers) (by decide +kernel) rfl rfl ⟨rfl,by decide,by decide⟩ (fun w h Y=>PySem.W.kIn_of Y) ?F ?S (fun _ _ _ _ z=>z)
 case F =>
  intro w mg fa h Y KX G hmg
  obtain ⟨f_within,d_within,x_within⟩:∃ f fd,Cs.Fn _ mg "within" Cs.s_within ["number","least","most"] f fd:=by
   refine' Cs.fn_of KX G ?a ?l ?c ?k (fun _ _ _ _ _ _ us hl=>match us,hl with | [_,_,_],_=>rfl)
   (case a=>k_is);(case l=>k_is);(case c=>k_is);(case k=>k_is)
  obtain ⟨f_all_within,d_all_within,x_all_within⟩:∃ f fd,Cs.Fn _ mg "all_within" Cs.s_all_within ["row","least","most"] f fd:=by
   refine' Cs.fn_of KX G ?a ?l ?c ?k (fun _ _ _ _ _ _ us hl=>match us,hl with | [_,_,_],_=>rfl)
   (case a=>k_is);(case l=>k_is);(case c=>k_is);(case k=>k_is)
  obtain ⟨f_all_conditions,d_all_conditions,x_all_conditions⟩:∃ f fd,Cs.Fn _ mg "all_conditions" Cs.s_all_conditions ["count"] f fd:=by
   refine' Cs.fn_of KX G ?a ?l ?c ?k (fun _ _ _ _ _ _ us hl=>match us,hl with | [_],_=>rfl)
   (case a=>k_is);(case l=>k_is);(case c=>k_is);(case k=>k_is)
  obtain ⟨f_holds,d_holds,x_holds⟩:∃ f fd,Cs.Fn _ mg "holds" Cs.s_holds ["conditions","condition"] f fd:=by
   refine' Cs.fn_of KX G ?a ?l ?c ?k (fun _ _ _ _ _ _ us hl=>match us,hl with | [_,_],_=>rfl)
   (case a=>k_is);(case l=>k_is);(case c=>k_is);(case k=>k_is)
  obtain ⟨f_are_sets,d_are_sets,x_are_sets⟩:∃ f fd,Cs.Fn _ mg "are_sets" Cs.s_are_sets ["row","props","least"] f fd:=by
   refine' Cs.fn_of KX G ?a ?l ?c ?k (fun _ _ _ _ _ _ us hl=>match us,hl with | [_,_,_],_=>rfl)
   (case a=>k_is);(case l=>k_is);(case c=>k_is);(case k=>k_is)
  obtain ⟨f_are_conditions,d_are_conditions,x_are_conditions⟩:∃ f fd,Cs.Fn _ mg "are_conditions" Cs.s_are_conditions ["row","props"] f fd:=by
   refine' Cs.fn_of KX G ?a ?l ?c ?k (fun _ _ _ _ _ _ us hl=>match us,hl with | [_,_],_=>rfl)
   (case a=>k_is);(case l=>k_is);(case c=>k_is);(case k=>k_is)
  obtain ⟨f_is_trick,d_is_trick,x_is_trick⟩:∃ f fd,Cs.Fn _ mg "is_trick" Cs.s_is_trick ["number"] f fd:=by
   refine' Cs.fn_of KX G ?a ?l ?c ?k (fun _ _ _ _ _ _ us hl=>match us,hl with | [_],_=>rfl)
   (case a=>k_is);(case l=>k_is);(case c=>k_is);(case k=>k_is)
  obtain ⟨f_item_at,d_item_at,x_item_at⟩:∃ f fd,Cs.Fn _ mg "item_at" Cs.s_item_at ["house","number"] f fd:=by
   refine' Cs.fn_of KX G ?a ?l ?c ?k (fun _ _ _ _ _ _ us hl=>match us,hl with | [_,_],_=>rfl)
   (case a=>k_is);(case l=>k_is);(case c=>k_is);(case k=>k_is)
  obtain ⟨f_refusal_unless_doing,d_refusal_unless_doing,x_refusal_unless_doing⟩:∃ f fd,Cs.Fn _ mg "refusal_unless_doing" Cs.s_refusal_unless_doing ["line"] f fd:=by
   refine' Cs.fn_of KX G ?a ?l ?c ?k (fun _ _ _ _ _ _ us hl=>match us,hl with | [_],_=>rfl)
   (case a=>k_is);(case l=>k_is);(case c=>k_is);(case k=>k_is)
  obtain ⟨f_wants_cue,d_wants_cue,x_wants_cue⟩:∃ f fd,Cs.Fn _ mg "wants_cue" Cs.s_wants_cue ["house","show"] f fd:=by
   refine' Cs.fn_of KX G ?a ?l ?c ?k (fun _ _ _ _ _ _ us hl=>match us,hl with | [_,_],_=>rfl)
   (case a=>k_is);(case l=>k_is);(case c=>k_is);(case k=>k_is)
  obtain ⟨f_is_rescued,d_is_rescued,x_is_rescued⟩:∃ f fd,Cs.Fn _ mg "is_rescued" Cs.s_is_rescued ["house","show"] f fd:=by
   refine' Cs.fn_of KX G ?a ?l ?c ?k (fun _ _ _ _ _ _ us hl=>match us,hl with | [_,_],_=>rfl)
   (case a=>k_is);(case l=>k_is);(case c=>k_is);(case k=>k_is)
  obtain ⟨f_waits_for_cue,d_waits_for_cue,x_waits_for_cue⟩:∃ f fd,Cs.Fn _ mg "waits_for_cue" Cs.s_waits_for_cue ["house","show"] f fd:=by
   refine' Cs.fn_of KX G ?a ?l ?c ?k (fun _ _ _ _ _ _ us hl=>match us,hl with | [_,_],_=>rfl)
   (case a=>k_is);(case l=>k_is);(case c=>k_is);(case k=>k_is)
  obtain ⟨f_way_taken,d_way_taken,x_way_taken⟩:∃ f fd,Cs.Fn _ mg "way_taken" Cs.s_way_taken ["house","show"] f fd:=by
   refine' Cs.fn_of KX G ?a ?l ?c ?k (fun _ _ _ _ _ _ us hl=>match us,hl with | [_,_],_=>rfl)
   (case a=>k_is);(case l=>k_is);(case c=>k_is);(case k=>k_is)
  obtain ⟨f_answer_send,d_answer_send,x_answer_send⟩:∃ f fd,Cs.Fn _ mg "answer_send" Cs.s_answer_send ["line","value"] f fd:=by
   refine' Cs.fn_of KX G ?a ?l ?c ?k (fun _ _ _ _ _ _ us hl=>match us,hl with | [_,_],_=>rfl)
   (case a=>k_is);(case l=>k_is);(case c=>k_is);(case k=>k_is)
  obtain ⟨f_refusal_of_place,d_refusal_of_place,x_refusal_of_place⟩:∃ f fd,Cs.Fn _ mg "refusal_of_place" Cs.s_refusal_of_place ["line","place"] f fd:=by
   refine' Cs.fn_of KX G ?a ?l ?c ?k (fun _ _ _ _ _ _ us hl=>match us,hl with | [_,_],_=>rfl)
   (case a=>k_is);(case l=>k_is);(case c=>k_is);(case k=>k_is)
  obtain ⟨f_answer_lose,d_answer_lose,x_answer_lose⟩:∃ f fd,Cs.Fn _ mg "answer_lose" Cs.s_answer_lose ["line","place"] f fd:=by
   refine' Cs.fn_of KX G ?a ?l ?c ?k (fun _ _ _ _ _ _ us hl=>match us,hl with | [_,_],_=>rfl)
   (case a=>k_is);(case l=>k_is);(case c=>k_is);(case k=>k_is)
  obtain ⟨f_answer_double,d_answer_double,x_answer_double⟩:∃ f fd,Cs.Fn _ mg "answer_double" Cs.s_answer_double ["line","place"] f fd:=by
   refine' Cs.fn_of KX G ?a ?l ?c ?k (fun _ _ _ _ _ _ us hl=>match us,hl with | [_,_],_=>rfl)
   (case a=>k_is);(case l=>k_is);(case c=>k_is);(case k=>k_is)
  obtain ⟨f_answer_deliver,d_answer_deliver,x_answer_deliver⟩:∃ f fd,Cs.Fn _ mg "answer_deliver" Cs.s_answer_deliver ["line","place"] f fd:=by
   refine' Cs.fn_of KX G ?a ?l ?c ?k (fun _ _ _ _ _ _ us hl=>match us,hl with | [_,_],_=>rfl)
   (case a=>k_is);(case l=>k_is);(case c=>k_is);(case k=>k_is)
  obtain ⟨f_answer_tick,d_answer_tick,x_answer_tick⟩:∃ f fd,Cs.Fn _ mg "answer_tick" Cs.s_answer_tick ["line","ticks"] f fd:=by
   refine' Cs.fn_of KX G ?a ?l ?c ?k (fun _ _ _ _ _ _ us hl=>match us,hl with | [_,_],_=>rfl)
   (case a=>k_is);(case l=>k_is);(case c=>k_is);(case k=>k_is)
  obtain ⟨f_answer_cue_call,d_answer_cue_call,x_answer_cue_call⟩:∃ f fd,Cs.Fn _ mg "answer_cue_call" Cs.s_answer_cue_call ["line","call","numbers"] f fd:=by
   refine' Cs.fn_of KX G ?a ?l ?c ?k (fun _ _ _ _ _ _ us hl=>match us,hl with | [_,_,_],_=>rfl)
   (case a=>k_is);(case l=>k_is);(case c=>k_is);(case k=>k_is)
  obtain ⟨f_answer_glance,d_answer_glance,x_answer_glance⟩:∃ f fd,Cs.Fn _ mg "answer_glance" Cs.s_answer_glance ["line","prop"] f fd:=by
   refine' Cs.fn_of KX G ?a ?l ?c ?k (fun _ _ _ _ _ _ us hl=>match us,hl with | [_,_],_=>rfl)
   (case a=>k_is);(case l=>k_is);(case c=>k_is);(case k=>k_is)
  obtain ⟨f_answer_state,d_answer_state,x_answer_state⟩:∃ f fd,Cs.Fn _ mg "answer_state" Cs.s_answer_state ["line"] f fd:=by
   refine' Cs.fn_of KX G ?a ?l ?c ?k (fun _ _ _ _ _ _ us hl=>match us,hl with | [_],_=>rfl)
   (case a=>k_is);(case l=>k_is);(case c=>k_is);(case k=>k_is)
  obtain ⟨f_answer_log,d_answer_log,x_answer_log⟩:∃ f fd,Cs.Fn _ mg "answer_log" Cs.s_answer_log ["line"] f fd:=by
   refine' Cs.fn_of KX G ?a ?l ?c ?k (fun _ _ _ _ _ _ us hl=>match us,hl with | [_],_=>rfl)
   (case a=>k_is);(case l=>k_is);(case c=>k_is);(case k=>k_is)
  obtain ⟨f_answer_wire,d_answer_wire,x_answer_wire⟩:∃ f fd,Cs.Fn _ mg "answer_wire" Cs.s_answer_wire ["line"] f fd:=by
   refine' Cs.fn_of KX G ?a ?l ?c ?k (fun _ _ _ _ _ _ us hl=>match us,hl with | [_],_=>rfl)
   (case a=>k_is);(case l=>k_is);(case c=>k_is);(case k=>k_is)
  obtain ⟨f_answer_look_call,d_answer_look_call,x_answer_look_call⟩:∃ f fd,Cs.Fn _ mg "answer_look_call" Cs.s_answer_look_call ["line","call","numbers"] f fd:=by
   refine' Cs.fn_of KX G ?a ?l ?c ?k (fun _ _ _ _ _ _ us hl=>match us,hl with | [_,_,_],_=>rfl)
   (case a=>k_is);(case l=>k_is);(case c=>k_is);(case k=>k_is)
  obtain ⟨f_is_sure,d_is_sure,x_is_sure⟩:∃ f fd,Cs.Fn _ mg "is_sure" Cs.s_is_sure ["item","beliefs"] f fd:=by
   refine' Cs.fn_of KX G ?a ?l ?c ?k (fun _ _ _ _ _ _ us hl=>match us,hl with | [_,_],_=>rfl)
   (case a=>k_is);(case l=>k_is);(case c=>k_is);(case k=>k_is)
  obtain ⟨f_left_by,d_left_by,x_left_by⟩:∃ f fd,Cs.Fn _ mg "left_by" Cs.s_left_by ["leave","beliefs"] f fd:=by
   refine' Cs.fn_of KX G ?a ?l ?c ?k (fun _ _ _ _ _ _ us hl=>match us,hl with | [_,_],_=>rfl)
   (case a=>k_is);(case l=>k_is);(case c=>k_is);(case k=>k_is)
  obtain ⟨f_believed_behind,d_believed_behind,x_believed_behind⟩:∃ f fd,Cs.Fn _ mg "believed_behind" Cs.s_believed_behind ["item","beliefs"] f fd:=by
   refine' Cs.fn_of KX G ?a ?l ?c ?k (fun _ _ _ _ _ _ us hl=>match us,hl with | [_,_],_=>rfl)
   (case a=>k_is);(case l=>k_is);(case c=>k_is);(case k=>k_is)
  obtain ⟨f_empty_plan,d_empty_plan,x_empty_plan⟩:∃ f fd,Cs.Fn _ mg "empty_plan" Cs.s_empty_plan ["house"] f fd:=by
   refine' Cs.fn_of KX G ?a ?l ?c ?k (fun _ _ _ _ _ _ us hl=>match us,hl with | [_],_=>rfl)
   (case a=>k_is);(case l=>k_is);(case c=>k_is);(case k=>k_is)
  obtain ⟨f_is_whole,d_is_whole,x_is_whole⟩:∃ f fd,Cs.Fn _ mg "is_whole" Cs.s_is_whole ["house","plan"] f fd:=by
   refine' Cs.fn_of KX G ?a ?l ?c ?k (fun _ _ _ _ _ _ us hl=>match us,hl with | [_,_],_=>rfl)
   (case a=>k_is);(case l=>k_is);(case c=>k_is);(case k=>k_is)
  obtain ⟨f_reason_against,d_reason_against,x_reason_against⟩:∃ f fd,Cs.Fn _ mg "reason_against" Cs.s_reason_against ["house","plan","number"] f fd:=by
   refine' Cs.fn_of KX G ?a ?l ?c ?k (fun _ _ _ _ _ _ us hl=>match us,hl with | [_,_,_],_=>rfl)
   (case a=>k_is);(case l=>k_is);(case c=>k_is);(case k=>k_is)
  obtain ⟨f_longer_plan,d_longer_plan,x_longer_plan⟩:∃ f fd,Cs.Fn _ mg "longer_plan" Cs.s_longer_plan ["house","plan","number"] f fd:=by
   refine' Cs.fn_of KX G ?a ?l ?c ?k (fun _ _ _ _ _ _ us hl=>match us,hl with | [_,_,_],_=>rfl)
   (case a=>k_is);(case l=>k_is);(case c=>k_is);(case k=>k_is)
  obtain ⟨f_longer_plans,d_longer_plans,x_longer_plans⟩:∃ f fd,Cs.Fn _ mg "longer_plans" Cs.s_longer_plans ["house","plan"] f fd:=by
   refine' Cs.fn_of KX G ?a ?l ?c ?k (fun _ _ _ _ _ _ us hl=>match us,hl with | [_,_],_=>rfl)
   (case a=>k_is);(case l=>k_is);(case c=>k_is);(case k=>k_is)
  obtain ⟨f_order_of,d_order_of,x_order_of⟩:∃ f fd,Cs.Fn _ mg "order_of" Cs.s_order_of ["plan"] f fd:=by
   refine' Cs.fn_of KX G ?a ?l ?c ?k (fun _ _ _ _ _ _ us hl=>match us,hl with | [_],_=>rfl)
   (case a=>k_is);(case l=>k_is);(case c=>k_is);(case k=>k_is)
  obtain ⟨f_find_plan,d_find_plan,x_find_plan⟩:∃ f fd,Cs.Fn _ mg "find_plan" Cs.s_find_plan ["house","steps"] f fd:=by
   refine' Cs.fn_of KX G ?a ?l ?c ?k (fun _ _ _ _ _ _ us hl=>match us,hl with | [_,_],_=>rfl)
   (case a=>k_is);(case l=>k_is);(case c=>k_is);(case k=>k_is)
  obtain ⟨f_answer_runs,d_answer_runs,x_answer_runs⟩:∃ f fd,Cs.Fn _ mg "answer_runs" Cs.s_answer_runs ["line","order"] f fd:=by
   refine' Cs.fn_of KX G ?a ?l ?c ?k (fun _ _ _ _ _ _ us hl=>match us,hl with | [_,_],_=>rfl)
   (case a=>k_is);(case l=>k_is);(case c=>k_is);(case k=>k_is)
  obtain ⟨f_answer_plan,d_answer_plan,x_answer_plan⟩:∃ f fd,Cs.Fn _ mg "answer_plan" Cs.s_answer_plan ["line","steps"] f fd:=by
   refine' Cs.fn_of KX G ?a ?l ?c ?k (fun _ _ _ _ _ _ us hl=>match us,hl with | [_,_],_=>rfl)
   (case a=>k_is);(case l=>k_is);(case c=>k_is);(case k=>k_is)
  obtain ⟨f_answer_plan_call,d_answer_plan_call,x_answer_plan_call⟩:∃ f fd,Cs.Fn _ mg "answer_plan_call" Cs.s_answer_plan_call ["line","call","numbers","rows"] f fd:=by
   refine' Cs.fn_of KX G ?a ?l ?c ?k (fun _ _ _ _ _ _ us hl=>match us,hl with | [_,_,_,_],_=>rfl)
   (case a=>k_is);(case l=>k_is);(case c=>k_is);(case k=>k_is)
  obtain ⟨f_answer_props,d_answer_props,x_answer_props⟩:∃ f fd,Cs.Fn _ mg "answer_props" Cs.s_answer_props ["line","props"] f fd:=by
   refine' Cs.fn_of KX G ?a ?l ?c ?k (fun _ _ _ _ _ _ us hl=>match us,hl with | [_,_],_=>rfl)
   (case a=>k_is);(case l=>k_is);(case c=>k_is);(case k=>k_is)
  obtain ⟨f_answer_trick,d_answer_trick,x_answer_trick⟩:∃ f fd,Cs.Fn _ mg "answer_trick" Cs.s_answer_trick ["line","minutes","wait","need","leave","rescue"] f fd:=by
   refine' Cs.fn_of KX G ?a ?l ?c ?k (fun _ _ _ _ _ _ us hl=>match us,hl with | [_,_,_,_,_,_],_=>rfl)
   (case a=>k_is);(case l=>k_is);(case c=>k_is);(case k=>k_is)
  obtain ⟨f_answer_reset,d_answer_reset,x_answer_reset⟩:∃ f fd,Cs.Fn _ mg "answer_reset" Cs.s_answer_reset ["line","minutes","need","leave"] f fd:=by
   refine' Cs.fn_of KX G ?a ?l ?c ?k (fun _ _ _ _ _ _ us hl=>match us,hl with | [_,_,_,_],_=>rfl)
   (case a=>k_is);(case l=>k_is);(case c=>k_is);(case k=>k_is)
  obtain ⟨f_answer_hall,d_answer_hall,x_answer_hall⟩:∃ f fd,Cs.Fn _ mg "answer_hall" Cs.s_answer_hall ["line","limit","delay","beliefs"] f fd:=by
   refine' Cs.fn_of KX G ?a ?l ?c ?k (fun _ _ _ _ _ _ us hl=>match us,hl with | [_,_,_,_],_=>rfl)
   (case a=>k_is);(case l=>k_is);(case c=>k_is);(case k=>k_is)
  obtain ⟨f_answer_told,d_answer_told,x_answer_told⟩:∃ f fd,Cs.Fn _ mg "answer_told" Cs.s_answer_told ["line"] f fd:=by
   refine' Cs.fn_of KX G ?a ?l ?c ?k (fun _ _ _ _ _ _ us hl=>match us,hl with | [_],_=>rfl)
   (case a=>k_is);(case l=>k_is);(case c=>k_is);(case k=>k_is)
  obtain ⟨f_answer_setup_call,d_answer_setup_call,x_answer_setup_call⟩:∃ f fd,Cs.Fn _ mg "answer_setup_call" Cs.s_answer_setup_call ["line","call","numbers","rows"] f fd:=by
   refine' Cs.fn_of KX G ?a ?l ?c ?k (fun _ _ _ _ _ _ us hl=>match us,hl with | [_,_,_,_],_=>rfl)
   (case a=>k_is);(case l=>k_is);(case c=>k_is);(case k=>k_is)
  obtain ⟨f_answer_start,d_answer_start,x_answer_start⟩:∃ f fd,Cs.Fn _ mg "answer_start" Cs.s_answer_start ["line","actual"] f fd:=by
   refine' Cs.fn_of KX G ?a ?l ?c ?k (fun _ _ _ _ _ _ us hl=>match us,hl with | [_,_],_=>rfl)
   (case a=>k_is);(case l=>k_is);(case c=>k_is);(case k=>k_is)
  obtain ⟨f_was_done,d_was_done,x_was_done⟩:∃ f fd,Cs.Fn _ mg "was_done" Cs.s_was_done ["show","number"] f fd:=by
   refine' Cs.fn_of KX G ?a ?l ?c ?k (fun _ _ _ _ _ _ us hl=>match us,hl with | [_,_],_=>rfl)
   (case a=>k_is);(case l=>k_is);(case c=>k_is);(case k=>k_is)
  obtain ⟨f_refusal_of_begin,d_refusal_of_begin,x_refusal_of_begin⟩:∃ f fd,Cs.Fn _ mg "refusal_of_begin" Cs.s_refusal_of_begin ["house","show","number"] f fd:=by
   refine' Cs.fn_of KX G ?a ?l ?c ?k (fun _ _ _ _ _ _ us hl=>match us,hl with | [_,_,_],_=>rfl)
   (case a=>k_is);(case l=>k_is);(case c=>k_is);(case k=>k_is)
  obtain ⟨f_answer_begin,d_answer_begin,x_answer_begin⟩:∃ f fd,Cs.Fn _ mg "answer_begin" Cs.s_answer_begin ["line","number"] f fd:=by
   refine' Cs.fn_of KX G ?a ?l ?c ?k (fun _ _ _ _ _ _ us hl=>match us,hl with | [_,_],_=>rfl)
   (case a=>k_is);(case l=>k_is);(case c=>k_is);(case k=>k_is)
  obtain ⟨f_can_be_left,d_can_be_left,x_can_be_left⟩:∃ f fd,Cs.Fn _ mg "can_be_left" Cs.s_can_be_left ["leave","before","actual"] f fd:=by
   refine' Cs.fn_of KX G ?a ?l ?c ?k (fun _ _ _ _ _ _ us hl=>match us,hl with | [_,_,_],_=>rfl)
   (case a=>k_is);(case l=>k_is);(case c=>k_is);(case k=>k_is)
  obtain ⟨f_answer_finish,d_answer_finish,x_answer_finish⟩:∃ f fd,Cs.Fn _ mg "answer_finish" Cs.s_answer_finish ["line","actual"] f fd:=by
   refine' Cs.fn_of KX G ?a ?l ?c ?k (fun _ _ _ _ _ _ us hl=>match us,hl with | [_,_],_=>rfl)
   (case a=>k_is);(case l=>k_is);(case c=>k_is);(case k=>k_is)
  obtain ⟨f_answer_close,d_answer_close,x_answer_close⟩:∃ f fd,Cs.Fn _ mg "answer_close" Cs.s_answer_close ["line"] f fd:=by
   refine' Cs.fn_of KX G ?a ?l ?c ?k (fun _ _ _ _ _ _ us hl=>match us,hl with | [_],_=>rfl)
   (case a=>k_is);(case l=>k_is);(case c=>k_is);(case k=>k_is)
  obtain ⟨f_answer_show_call,d_answer_show_call,x_answer_show_call⟩:∃ f fd,Cs.Fn _ mg "answer_show_call" Cs.s_answer_show_call ["line","call","numbers","rows"] f fd:=by
   refine' Cs.fn_of KX G ?a ?l ?c ?k (fun _ _ _ _ _ _ us hl=>match us,hl with | [_,_,_,_],_=>rfl)
   (case a=>k_is);(case l=>k_is);(case c=>k_is);(case k=>k_is)
  obtain ⟨f_answer_call,d_answer_call,x_answer_call⟩:∃ f fd,Cs.Fn _ mg "answer_call" Cs.s_answer_call ["line","call","numbers","rows"] f fd:=by
   refine' Cs.fn_of KX G ?a ?l ?c ?k (fun _ _ _ _ _ _ us hl=>match us,hl with | [_,_,_,_],_=>rfl)
   (case a=>k_is);(case l=>k_is);(case c=>k_is);(case k=>k_is)
  obtain ⟨f_answers,d_answers,x_answers⟩:∃ f fd,Cs.Fn _ mg "answers" Cs.s_answers ["calls"] f fd:=by
   refine' Cs.fn_of KX G ?a ?l ?c ?k (fun _ _ _ _ _ _ us hl=>match us,hl with | [_],_=>rfl)
   (case a=>k_is);(case l=>k_is);(case c=>k_is);(case k=>k_is)
  obtain ⟨c_Item,mg_Item,cl_Item,mk_Item,kc_Item,no_Item_minutes,no_Item_wait,no_Item_need,no_Item_leave,no_Item_rescue,⟨f_Item_init,d_Item_init,a_Item_init,i_Item_init,x_Item_init,b_Item_init,k_Item_init⟩⟩:∃ C:Addr,mg "Item"=some (.ref C)∧L2.Cls _ C∧PySem.W.makesIn _ C=true∧PySem.W.keepIn _ (.ref C)=true∧L2.NoAttr _ C "minutes"∧L2.NoAttr _ C "wait"∧L2.NoAttr _ C "need"∧L2.NoAttr _ C "leave"∧L2.NoAttr _ C "rescue"∧(∃ f fd,PySem.W.findIn _ (.ref C) "__init__"=some (some (.ref f))∧PySem.W.isFn _ (.ref f)=true∧L2.Fun _ "__init__" "Item.__init__" Cs.s_Item_init f fd∧L2.Binds _ fd ["self","minutes","wait","need","leave","rescue"] []∧PySem.W.keepIn _ (.ref f)=true):=by
   refine' Cs.cls_Item KX G ?cz0 ?cz1 ?cz2 ?cz3 ?cz4 ?cz5 ?cz6 ?cz7 ?cz8 ?cz9 ?cz10 ?cz11 ?cz12 ?cz13 ?cz14 ?cz15 ?cz16
   (case cz0=>k_is);(case cz1=>k_is);(case cz2=>k_is);(case cz3=>k_is);(case cz4=>k_is);(case cz5=>k_is);(case cz6=>k_is);(case cz7=>k_is);(case cz8=>k_is);(case cz9=>k_is);(case cz10=>k_is);(case cz11=>k_is);(case cz12=>k_is);(case cz13=>k_is);(case cz14=>k_is);(case cz15=>k_is);(case cz16=>k_is)
  obtain ⟨c_House,mg_House,cl_House,mk_House,kc_House,no_House_props,no_House_tricks,no_House_resets,no_House_limit,no_House_delay,no_House_beliefs,⟨f_House_init,d_House_init,a_House_init,i_House_init,x_House_init,b_House_init,k_House_init⟩⟩:∃ C:Addr,mg "House"=some (.ref C)∧L2.Cls _ C∧PySem.W.makesIn _ C=true∧PySem.W.keepIn _ (.ref C)=true∧L2.NoAttr _ C "props"∧L2.NoAttr _ C "tricks"∧L2.NoAttr _ C "resets"∧L2.NoAttr _ C "limit"∧L2.NoAttr _ C "delay"∧L2.NoAttr _ C "beliefs"∧(∃ f fd,PySem.W.findIn _ (.ref C) "__init__"=some (some (.ref f))∧PySem.W.isFn _ (.ref f)=true∧L2.Fun _ "__init__" "House.__init__" Cs.s_House_init f fd∧L2.Binds _ fd ["self","props"] []∧PySem.W.keepIn _ (.ref f)=true):=by
   refine' Cs.cls_House KX G ?cz0 ?cz1 ?cz2 ?cz3 ?cz4 ?cz5 ?cz6 ?cz7 ?cz8 ?cz9 ?cz10 ?cz11 ?cz12 ?cz13 ?cz14 ?cz15 ?cz16 ?cz17
   (case cz0=>k_is);(case cz1=>k_is);(case cz2=>k_is);(case cz3=>k_is);(case cz4=>k_is);(case cz5=>k_is);(case cz6=>k_is);(case cz7=>k_is);(case cz8=>k_is);(case cz9=>k_is);(case cz10=>k_is);(case cz11=>k_is);(case cz12=>k_is);(case cz13=>k_is);(case cz14=>k_is);(case cz15=>k_is);(case cz16=>k_is);(case cz17=>k_is)
  obtain ⟨c_Cue,mg_Cue,cl_Cue,mk_Cue,kc_Cue,no_Cue_serial,no_Cue_number,no_Cue_value,no_Cue_age,⟨f_Cue_init,d_Cue_init,a_Cue_init,i_Cue_init,x_Cue_init,b_Cue_init,k_Cue_init⟩⟩:∃ C:Addr,mg "Cue"=some (.ref C)∧L2.Cls _ C∧PySem.W.makesIn _ C=true∧PySem.W.keepIn _ (.ref C)=true∧L2.NoAttr _ C "serial"∧L2.NoAttr _ C "number"∧L2.NoAttr _ C "value"∧L2.NoAttr _ C "age"∧(∃ f fd,PySem.W.findIn _ (.ref C) "__init__"=some (some (.ref f))∧PySem.W.isFn _ (.ref f)=true∧L2.Fun _ "__init__" "Cue.__init__" Cs.s_Cue_init f fd∧L2.Binds _ fd ["self","serial","number","value","age"] []∧PySem.W.keepIn _ (.ref f)=true):=by
   refine' Cs.cls_Cue KX G ?cz0 ?cz1 ?cz2 ?cz3 ?cz4 ?cz5 ?cz6 ?cz7 ?cz8 ?cz9 ?cz10 ?cz11 ?cz12 ?cz13 ?cz14 ?cz15
   (case cz0=>k_is);(case cz1=>k_is);(case cz2=>k_is);(case cz3=>k_is);(case cz4=>k_is);(case cz5=>k_is);(case cz6=>k_is);(case cz7=>k_is);(case cz8=>k_is);(case cz9=>k_is);(case cz10=>k_is);(case cz11=>k_is);(case cz12=>k_is);(case cz13=>k_is);(case cz14=>k_is);(case cz15=>k_is)
  obtain ⟨c_Done,mg_Done,cl_Done,mk_Done,kc_Done,no_Done_number,no_Done_taken,no_Done_rescued,⟨f_Done_init,d_Done_init,a_Done_init,i_Done_init,x_Done_init,b_Done_init,k_Done_init⟩⟩:∃ C:Addr,mg "Done"=some (.ref C)∧L2.Cls _ C∧PySem.W.makesIn _ C=true∧PySem.W.keepIn _ (.ref C)=true∧L2.NoAttr _ C "number"∧L2.NoAttr _ C "taken"∧L2.NoAttr _ C "rescued"∧(∃ f fd,PySem.W.findIn _ (.ref C) "__init__"=some (some (.ref f))∧PySem.W.isFn _ (.ref f)=true∧L2.Fun _ "__init__" "Done.__init__" Cs.s_Done_init f fd∧L2.Binds _ fd ["self","number","taken","rescued"] []∧PySem.W.keepIn _ (.ref f)=true):=by
   refine' Cs.cls_Done KX G ?cz0 ?cz1 ?cz2 ?cz3 ?cz4 ?cz5 ?cz6 ?cz7 ?cz8 ?cz9 ?cz10 ?cz11 ?cz12 ?cz13 ?cz14
   (case cz0=>k_is);(case cz1=>k_is);(case cz2=>k_is);(case cz3=>k_is);(case cz4=>k_is);(case cz5=>k_is);(case cz6=>k_is);(case cz7=>k_is);(case cz8=>k_is);(case cz9=>k_is);(case cz10=>k_is);(case cz11=>k_is);(case cz12=>k_is);(case cz13=>k_is);(case cz14=>k_is)
  obtain ⟨c_Show,mg_Show,cl_Show,mk_Show,kc_Show,no_Show_beliefs,no_Show_actual,no_Show_serial,no_Show_done,no_Show_minutes,no_Show_wire,no_Show_doing,no_Show_sent,no_Show_ticks,no_Show_taken,⟨f_Show_init,d_Show_init,a_Show_init,i_Show_init,x_Show_init,b_Show_init,k_Show_init⟩,⟨f_Show_turn_to,d_Show_turn_to,a_Show_turn_to,i_Show_turn_to,x_Show_turn_to,b_Show_turn_to,k_Show_turn_to⟩⟩:∃ C:Addr,mg "Show"=some (.ref C)∧L2.Cls _ C∧PySem.W.makesIn _ C=true∧PySem.W.keepIn _ (.ref C)=true∧L2.NoAttr _ C "beliefs"∧L2.NoAttr _ C "actual"∧L2.NoAttr _ C "serial"∧L2.NoAttr _ C "done"∧L2.NoAttr _ C "minutes"∧L2.NoAttr _ C "wire"∧L2.NoAttr _ C "doing"∧L2.NoAttr _ C "sent"∧L2.NoAttr _ C "ticks"∧L2.NoAttr _ C "taken"∧(∃ f fd,PySem.W.findIn _ (.ref C) "__init__"=some (some (.ref f))∧PySem.W.isFn _ (.ref f)=true∧L2.Fun _ "__init__" "Show.__init__" Cs.s_Show_init f fd∧L2.Binds _ fd ["self","beliefs","actual"] []∧PySem.W.keepIn _ (.ref f)=true)∧(∃ f fd,PySem.W.findIn _ (.ref C) "turn_to"=some (some (.ref f))∧PySem.W.isFn _ (.ref f)=true∧L2.Fun _ "turn_to" "Show.turn_to" Cs.s_Show_turn_to f fd∧L2.Binds _ fd ["self","number"] []∧PySem.W.keepIn _ (.ref f)=true):=by
   refine' Cs.cls_Show KX G ?cz0 ?cz1 ?cz2 ?cz3 ?cz4 ?cz5 ?cz6 ?cz7 ?cz8 ?cz9 ?cz10 ?cz11 ?cz12 ?cz13 ?cz14 ?cz15 ?cz16 ?cz17 ?cz18 ?cz19 ?cz20 ?cz21 ?cz22 ?cz23 ?cz24 ?cz25 ?cz26
   (case cz0=>k_is);(case cz1=>k_is);(case cz2=>k_is);(case cz3=>k_is);(case cz4=>k_is);(case cz5=>k_is);(case cz6=>k_is);(case cz7=>k_is);(case cz8=>k_is);(case cz9=>k_is);(case cz10=>k_is);(case cz11=>k_is);(case cz12=>k_is);(case cz13=>k_is);(case cz14=>k_is);(case cz15=>k_is);(case cz16=>k_is);(case cz17=>k_is);(case cz18=>k_is);(case cz19=>k_is);(case cz20=>k_is);(case cz21=>k_is);(case cz22=>k_is);(case cz23=>k_is);(case cz24=>k_is);(case cz25=>k_is);(case cz26=>k_is)
  obtain ⟨c_Line,mg_Line,cl_Line,mk_Line,kc_Line,no_Line_house,no_Line_show,⟨f_Line_init,d_Line_init,a_Line_init,i_Line_init,x_Line_init,b_Line_init,k_Line_init⟩⟩:∃ C:Addr,mg "Line"=some (.ref C)∧L2.Cls _ C∧PySem.W.makesIn _ C=true∧PySem.W.keepIn _ (.ref C)=true∧L2.NoAttr _ C "house"∧L2.NoAttr _ C "show"∧(∃ f fd,PySem.W.findIn _ (.ref C) "__init__"=some (some (.ref f))∧PySem.W.isFn _ (.ref f)=true∧L2.Fun _ "__init__" "Line.__init__" Cs.s_Line_init f fd∧L2.Binds _ fd ["self"] []∧PySem.W.keepIn _ (.ref f)=true):=by
   refine' Cs.cls_Line KX G ?cz0 ?cz1 ?cz2 ?cz3 ?cz4 ?cz5 ?cz6 ?cz7 ?cz8 ?cz9 ?cz10 ?cz11 ?cz12 ?cz13
   (case cz0=>k_is);(case cz1=>k_is);(case cz2=>k_is);(case cz3=>k_is);(case cz4=>k_is);(case cz5=>k_is);(case cz6=>k_is);(case cz7=>k_is);(case cz8=>k_is);(case cz9=>k_is);(case cz10=>k_is);(case cz11=>k_is);(case cz12=>k_is);(case cz13=>k_is)
  obtain ⟨c_Plan,mg_Plan,cl_Plan,mk_Plan,kc_Plan,no_Plan_order,no_Plan_minutes,no_Plan_done,no_Plan_beliefs,⟨f_Plan_init,d_Plan_init,a_Plan_init,i_Plan_init,x_Plan_init,b_Plan_init,k_Plan_init⟩⟩:∃ C:Addr,mg "Plan"=some (.ref C)∧L2.Cls _ C∧PySem.W.makesIn _ C=true∧PySem.W.keepIn _ (.ref C)=true∧L2.NoAttr _ C "order"∧L2.NoAttr _ C "minutes"∧L2.NoAttr _ C "done"∧L2.NoAttr _ C "beliefs"∧(∃ f fd,PySem.W.findIn _ (.ref C) "__init__"=some (some (.ref f))∧PySem.W.isFn _ (.ref f)=true∧L2.Fun _ "__init__" "Plan.__init__" Cs.s_Plan_init f fd∧L2.Binds _ fd ["self","order","minutes","done","beliefs"] []∧PySem.W.keepIn _ (.ref f)=true):=by
   refine' Cs.cls_Plan KX G ?cz0 ?cz1 ?cz2 ?cz3 ?cz4 ?cz5 ?cz6 ?cz7 ?cz8 ?cz9 ?cz10 ?cz11 ?cz12 ?cz13 ?cz14 ?cz15
   (case cz0=>k_is);(case cz1=>k_is);(case cz2=>k_is);(case cz3=>k_is);(case cz4=>k_is);(case cz5=>k_is);(case cz6=>k_is);(case cz7=>k_is);(case cz8=>k_is);(case cz9=>k_is);(case cz10=>k_is);(case cz11=>k_is);(case cz12=>k_is);(case cz13=>k_is);(case cz14=>k_is);(case cz15=>k_is)
  obtain ⟨c_Reader,mg_Reader,cl_Reader,mk_Reader,kc_Reader,no_Reader_calls,no_Reader_place,⟨f_Reader_init,d_Reader_init,a_Reader_init,i_Reader_init,x_Reader_init,b_Reader_init,k_Reader_init⟩,⟨f_Reader_at_end,d_Reader_at_end,a_Reader_at_end,i_Reader_at_end,x_Reader_at_end,b_Reader_at_end,k_Reader_at_end⟩,⟨f_Reader_take,d_Reader_take,a_Reader_take,i_Reader_take,x_Reader_take,b_Reader_take,k_Reader_take⟩,⟨f_Reader_take_row,d_Reader_take_row,a_Reader_take_row,i_Reader_take_row,x_Reader_take_row,b_Reader_take_row,k_Reader_take_row⟩⟩:∃ C:Addr,mg "Reader"=some (.ref C)∧L2.Cls _ C∧PySem.W.makesIn _ C=true∧PySem.W.keepIn _ (.ref C)=true∧L2.NoAttr _ C "calls"∧L2.NoAttr _ C "place"∧(∃ f fd,PySem.W.findIn _ (.ref C) "__init__"=some (some (.ref f))∧PySem.W.isFn _ (.ref f)=true∧L2.Fun _ "__init__" "Reader.__init__" Cs.s_Reader_init f fd∧L2.Binds _ fd ["self","calls"] []∧PySem.W.keepIn _ (.ref f)=true)∧(∃ f fd,PySem.W.findIn _ (.ref C) "at_end"=some (some (.ref f))∧PySem.W.isFn _ (.ref f)=true∧L2.Fun _ "at_end" "Reader.at_end" Cs.s_Reader_at_end f fd∧L2.Binds _ fd ["self"] []∧PySem.W.keepIn _ (.ref f)=true)∧(∃ f fd,PySem.W.findIn _ (.ref C) "take"=some (some (.ref f))∧PySem.W.isFn _ (.ref f)=true∧L2.Fun _ "take" "Reader.take" Cs.s_Reader_take f fd∧L2.Binds _ fd ["self"] []∧PySem.W.keepIn _ (.ref f)=true)∧(∃ f fd,PySem.W.findIn _ (.ref C) "take_row"=some (some (.ref f))∧PySem.W.isFn _ (.ref f)=true∧L2.Fun _ "take_row" "Reader.take_row" Cs.s_Reader_take_row f fd∧L2.Binds _ fd ["self"] []∧PySem.W.keepIn _ (.ref f)=true):=by
   refine' Cs.cls_Reader KX G ?cz0 ?cz1 ?cz2 ?cz3 ?cz4 ?cz5 ?cz6 ?cz7 ?cz8 ?cz9 ?cz10 ?cz11 ?cz12 ?cz13 ?cz14 ?cz15 ?cz16 ?cz17 ?cz18 ?cz19 ?cz20 ?cz21 ?cz22 ?cz23 ?cz24 ?cz25 ?cz26 ?cz27 ?cz28
   (case cz0=>k_is);(case cz1=>k_is);(case cz2=>k_is);(case cz3=>k_is);(case cz4=>k_is);(case cz5=>k_is);(case cz6=>k_is);(case cz7=>k_is);(case cz8=>k_is);(case cz9=>k_is);(case cz10=>k_is);(case cz11=>k_is);(case cz12=>k_is);(case cz13=>k_is);(case cz14=>k_is);(case cz15=>k_is);(case cz16=>k_is);(case cz17=>k_is);(case cz18=>k_is);(case cz19=>k_is);(case cz20=>k_is);(case cz21=>k_is);(case cz22=>k_is);(case cz23=>k_is);(case cz24=>k_is);(case cz25=>k_is);(case cz26=>k_is);(case cz27=>k_is);(case cz28=>k_is)
  have k_FIRST_RESET:Cs.Cn mg "FIRST_RESET" (8):=by refine' Cs.int_of KX G ?a;(case a=>k_is)
  have k_MOST_TRICKS:Cs.Cn mg "MOST_TRICKS" (8):=by refine' Cs.int_of KX G ?a;(case a=>k_is)
  have k_MOST_RESETS:Cs.Cn mg "MOST_RESETS" (6):=by refine' Cs.int_of KX G ?a;(case a=>k_is)
  have k_LAST_ITEM:Cs.Cn mg "LAST_ITEM" (13):=by refine' Cs.int_of KX G ?a;(case a=>k_is)
  have k_OUT_OF_RANGE:Cs.Cn mg "OUT_OF_RANGE" (-1):=by refine' Cs.int_of KX G ?a;(case a=>k_is)
  have k_WRONG_LIST:Cs.Cn mg "WRONG_LIST" (-2):=by refine' Cs.int_of KX G ?a;(case a=>k_is)
  have k_SHOW_ON_OR_OFF:Cs.Cn mg "SHOW_ON_OR_OFF" (-3):=by refine' Cs.int_of KX G ?a;(case a=>k_is)
  have k_NO_SUCH:Cs.Cn mg "NO_SUCH" (-4):=by refine' Cs.int_of KX G ?a;(case a=>k_is)
  have k_BUSY_OR_IDLE:Cs.Cn mg "BUSY_OR_IDLE" (-5):=by refine' Cs.int_of KX G ?a;(case a=>k_is)
  have k_OVER_LIMIT:Cs.Cn mg "OVER_LIMIT" (-6):=by refine' Cs.int_of KX G ?a;(case a=>k_is)
  have k_FULL:Cs.Cn mg "FULL" (-7):=by refine' Cs.int_of KX G ?a;(case a=>k_is)
  have k_CANNOT_BE:Cs.Cn mg "CANNOT_BE" (-8):=by refine' Cs.int_of KX G ?a;(case a=>k_is)
  have k_TRICK_WAS_DONE:Cs.Cn mg "TRICK_WAS_DONE" (-9):=by refine' Cs.int_of KX G ?a;(case a=>k_is)
  have k_NOT_SURE:Cs.Cn mg "NOT_SURE" (-10):=by refine' Cs.int_of KX G ?a;(case a=>k_is)
  have k_NO_CUE_WANTED:Cs.Cn mg "NO_CUE_WANTED" (-11):=by refine' Cs.int_of KX G ?a;(case a=>k_is)
  have k_NO_CUE_AT_PLACE:Cs.Cn mg "NO_CUE_AT_PLACE" (-12):=by refine' Cs.int_of KX G ?a;(case a=>k_is)
  have k_NOT_AT_ITS_END:Cs.Cn mg "NOT_AT_ITS_END" (-13):=by refine' Cs.int_of KX G ?a;(case a=>k_is)
  have k_NO_ITEM:Cs.Cn mg "NO_ITEM" (-1):=by refine' Cs.int_of KX G ?a;(case a=>k_is)
  have k_NO_VALUE:Cs.Cn mg "NO_VALUE" (-1):=by refine' Cs.int_of KX G ?a;(case a=>k_is)
  have k_MOST_VALUE:Cs.Cn mg "MOST_VALUE" (99):=by refine' Cs.int_of KX G ?a;(case a=>k_is)
  have k_MOST_CUES:Cs.Cn mg "MOST_CUES" (20):=by refine' Cs.int_of KX G ?a;(case a=>k_is)
  have k_MOST_TICKS:Cs.Cn mg "MOST_TICKS" (30):=by refine' Cs.int_of KX G ?a;(case a=>k_is)
  have k_LAST_PROP:Cs.Cn mg "LAST_PROP" (3):=by refine' Cs.int_of KX G ?a;(case a=>k_is)
  have k_RUNS:Cs.Cn mg "RUNS" (0):=by refine' Cs.int_of KX G ?a;(case a=>k_is)
  have k_NO_SUCH_ITEM:Cs.Cn mg "NO_SUCH_ITEM" (1):=by refine' Cs.int_of KX G ?a;(case a=>k_is)
  have k_TRICK_WAS_THERE:Cs.Cn mg "TRICK_WAS_THERE" (2):=by refine' Cs.int_of KX G ?a;(case a=>k_is)
  have k_ITEM_NOT_SURE:Cs.Cn mg "ITEM_NOT_SURE" (3):=by refine' Cs.int_of KX G ?a;(case a=>k_is)
  have k_LIMIT_PASSED:Cs.Cn mg "LIMIT_PASSED" (4):=by refine' Cs.int_of KX G ?a;(case a=>k_is)
  have k_NONE_FOUND:Cs.Cn mg "NONE_FOUND" (0):=by refine' Cs.int_of KX G ?a;(case a=>k_is)
  have k_FOUND:Cs.Cn mg "FOUND" (1):=by refine' Cs.int_of KX G ?a;(case a=>k_is)
  have k_STEPS_USED_UP:Cs.Cn mg "STEPS_USED_UP" (2):=by refine' Cs.int_of KX G ?a;(case a=>k_is)
  have k_MOST_IN_LIST:Cs.Cn mg "MOST_IN_LIST" (30):=by refine' Cs.int_of KX G ?a;(case a=>k_is)
  have k_MOST_STEPS:Cs.Cn mg "MOST_STEPS" (200):=by refine' Cs.int_of KX G ?a;(case a=>k_is)
  have k_MOST_PROPS:Cs.Cn mg "MOST_PROPS" (4):=by refine' Cs.int_of KX G ?a;(case a=>k_is)
  have k_LEAST_CONDITIONS:Cs.Cn mg "LEAST_CONDITIONS" (2):=by refine' Cs.int_of KX G ?a;(case a=>k_is)
  have k_MOST_CONDITIONS:Cs.Cn mg "MOST_CONDITIONS" (6):=by refine' Cs.int_of KX G ?a;(case a=>k_is)
  have k_MOST_MINUTES:Cs.Cn mg "MOST_MINUTES" (60):=by refine' Cs.int_of KX G ?a;(case a=>k_is)
  have k_MOST_WAIT:Cs.Cn mg "MOST_WAIT" (20):=by refine' Cs.int_of KX G ?a;(case a=>k_is)
  have k_MOST_LIMIT:Cs.Cn mg "MOST_LIMIT" (480):=by refine' Cs.int_of KX G ?a;(case a=>k_is)
  have k_MOST_DELAY:Cs.Cn mg "MOST_DELAY" (20):=by refine' Cs.int_of KX G ?a;(case a=>k_is)
  have k_LAST_SETUP_CALL:Cs.Cn mg "LAST_SETUP_CALL" (4):=by refine' Cs.int_of KX G ?a;(case a=>k_is)
  have k_LAST_PLAN_CALL:Cs.Cn mg "LAST_PLAN_CALL" (6):=by refine' Cs.int_of KX G ?a;(case a=>k_is)
  have k_POWERS:Cs.TnK KX mg "POWERS" [1,2,4,8,16,32,64]:=by
   refine' Cs.tup_of KX G ?a (Cs.tup_at ?l ?c ?d ?z ?v)
   (case a=>k_is);(case l=>k_is);(case c=>rfl);(case d=>rfl);(case z=>decide);(case v=>exact .cons ⟨_,rfl⟩ (.cons ⟨_,rfl⟩ (.cons ⟨_,rfl⟩ (.cons ⟨_,rfl⟩ (.cons ⟨_,rfl⟩ (.cons ⟨_,rfl⟩ (.cons ⟨_,rfl⟩ (.nil))))))))
  have k_CUE_CALLS:Cs.TnK KX mg "CUE_CALLS" [9,10,11,12,13]:=by
   refine' Cs.tup_of KX G ?a (Cs.tup_at ?l ?c ?d ?z ?v)
   (case a=>k_is);(case l=>k_is);(case c=>rfl);(case d=>rfl);(case z=>decide);(case v=>exact .cons ⟨_,rfl⟩ (.cons ⟨_,rfl⟩ (.cons ⟨_,rfl⟩ (.cons ⟨_,rfl⟩ (.cons ⟨_,rfl⟩ (.nil))))))
  have k_LOOK_CALLS:Cs.TnK KX mg "LOOK_CALLS" [15,16,17,18]:=by
   refine' Cs.tup_of KX G ?a (Cs.tup_at ?l ?c ?d ?z ?v)
   (case a=>k_is);(case l=>k_is);(case c=>rfl);(case d=>rfl);(case z=>decide);(case v=>exact .cons ⟨_,rfl⟩ (.cons ⟨_,rfl⟩ (.cons ⟨_,rfl⟩ (.cons ⟨_,rfl⟩ (.nil)))))
  have n_all:mg "all"=none:=by refine' PySem.W.mg_none_of KX G ?a;(case a=>k_is)
  have n_zip:mg "zip"=none:=by refine' PySem.W.mg_none_of KX G ?a;(case a=>k_is)
  have n_range:mg "range"=none:=by refine' PySem.W.mg_none_of KX G ?a;(case a=>k_is)
  have n_enumerate:mg "enumerate"=none:=by refine' PySem.W.mg_none_of KX G ?a;(case a=>k_is)
  have n_sorted:mg "sorted"=none:=by refine' PySem.W.mg_none_of KX G ?a;(case a=>k_is)
  have n_tuple:mg "tuple"=none:=by refine' PySem.W.mg_none_of KX G ?a;(case a=>k_is)
  have n_list:mg "list"=none:=by refine' PySem.W.mg_none_of KX G ?a;(case a=>k_is)
  have n_len:mg "len"=none:=by refine' PySem.W.mg_none_of KX G ?a;(case a=>k_is)
  have n_any:mg "any"=none:=by refine' PySem.W.mg_none_of KX G ?a;(case a=>k_is)
  have m_SHAPES:Cs.MpK KX mg "SHAPES" [(0,[0,1]),(1,[2,3]),(2,[1,2]),(3,[2,1]),(4,[0,0]),(5,[0,1]),(6,[1,0]),(7,[0,1]),(8,[1,0]),(9,[1,0]),(10,[1,0]),(11,[1,0]),(12,[1,0]),(13,[1,0]),(14,[0,1]),(15,[1,0]),(16,[0,0]),(17,[0,0]),(18,[0,0]),(19,[0,0])]:=by
   refine' Cs.mapd_of KX G ?a ?l ?e ?d ?k ?f
   (case a=>k_is);(case l=>k_is);(case e=>exact ⟨rfl,rfl,rfl⟩);(case d=>rfl)
   (case k=>exact Cs.keys_ok (by decide +kernel))
   case f =>
    intro x hx
    simp only [List.mem_cons,List.not_mem_nil,or_false] at hx
    rcases hx with rfl | rfl | rfl | rfl | rfl | rfl | rfl | rfl | rfl | rfl | rfl | rfl | rfl | rfl | rfl | rfl | rfl | rfl | rfl | rfl
    ·refine' ⟨_,rfl,Cs.tup_at ?l ?c ?d ?z ?v⟩
     (case l=>k_is);(case c=>rfl);(case d=>rfl);(case z=>decide);(case v=>exact .cons ⟨_,rfl⟩ (.cons ⟨_,rfl⟩ (.nil)))
    ·refine' ⟨_,rfl,Cs.tup_at ?l ?c ?d ?z ?v⟩
     (case l=>k_is);(case c=>rfl);(case d=>rfl);(case z=>decide);(case v=>exact .cons ⟨_,rfl⟩ (.cons ⟨_,rfl⟩ (.nil)))
    ·refine' ⟨_,rfl,Cs.tup_at ?l ?c ?d ?z ?v⟩
     (case l=>k_is);(case c=>rfl);(case d=>rfl);(case z=>decide);(case v=>exact .cons ⟨_,rfl⟩ (.cons ⟨_,rfl⟩ (.nil)))
    ·refine' ⟨_,rfl,Cs.tup_at ?l ?c ?d ?z ?v⟩
     (case l=>k_is);(case c=>rfl);(case d=>rfl);(case z=>decide);(case v=>exact .cons ⟨_,rfl⟩ (.cons ⟨_,rfl⟩ (.nil)))
    ·refine' ⟨_,rfl,Cs.tup_at ?l ?c ?d ?z ?v⟩
     (case l=>k_is);(case c=>rfl);(case d=>rfl);(case z=>decide);(case v=>exact .cons ⟨_,rfl⟩ (.cons ⟨_,rfl⟩ (.nil)))
    ·refine' ⟨_,rfl,Cs.tup_at ?l ?c ?d ?z ?v⟩
     (case l=>k_is);(case c=>rfl);(case d=>rfl);(case z=>decide);(case v=>exact .cons ⟨_,rfl⟩ (.cons ⟨_,rfl⟩ (.nil)))
    ·refine' ⟨_,rfl,Cs.tup_at ?l ?c ?d ?z ?v⟩
     (case l=>k_is);(case c=>rfl);(case d=>rfl);(case z=>decide);(case v=>exact .cons ⟨_,rfl⟩ (.cons ⟨_,rfl⟩ (.nil)))
    ·refine' ⟨_,rfl,Cs.tup_at ?l ?c ?d ?z ?v⟩
     (case l=>k_is);(case c=>rfl);(case d=>rfl);(case z=>decide);(case v=>exact .cons ⟨_,rfl⟩ (.cons ⟨_,rfl⟩ (.nil)))
    ·refine' ⟨_,rfl,Cs.tup_at ?l ?c ?d ?z ?v⟩
     (case l=>k_is);(case c=>rfl);(case d=>rfl);(case z=>decide);(case v=>exact .cons ⟨_,rfl⟩ (.cons ⟨_,rfl⟩ (.nil)))
    ·refine' ⟨_,rfl,Cs.tup_at ?l ?c ?d ?z ?v⟩
     (case l=>k_is);(case c=>rfl);(case d=>rfl);(case z=>decide);(case v=>exact .cons ⟨_,rfl⟩ (.cons ⟨_,rfl⟩ (.nil)))
    ·refine' ⟨_,rfl,Cs.tup_at ?l ?c ?d ?z ?v⟩
     (case l=>k_is);(case c=>rfl);(case d=>rfl);(case z=>decide);(case v=>exact .cons ⟨_,rfl⟩ (.cons ⟨_,rfl⟩ (.nil)))
    ·refine' ⟨_,rfl,Cs.tup_at ?l ?c ?d ?z ?v⟩
     (case l=>k_is);(case c=>rfl);(case d=>rfl);(case z=>decide);(case v=>exact .cons ⟨_,rfl⟩ (.cons ⟨_,rfl⟩ (.nil)))
    ·refine' ⟨_,rfl,Cs.tup_at ?l ?c ?d ?z ?v⟩
     (case l=>k_is);(case c=>rfl);(case d=>rfl);(case z=>decide);(case v=>exact .cons ⟨_,rfl⟩ (.cons ⟨_,rfl⟩ (.nil)))
    ·refine' ⟨_,rfl,Cs.tup_at ?l ?c ?d ?z ?v⟩
     (case l=>k_is);(case c=>rfl);(case d=>rfl);(case z=>decide);(case v=>exact .cons ⟨_,rfl⟩ (.cons ⟨_,rfl⟩ (.nil)))
    ·refine' ⟨_,rfl,Cs.tup_at ?l ?c ?d ?z ?v⟩
     (case l=>k_is);(case c=>rfl);(case d=>rfl);(case z=>decide);(case v=>exact .cons ⟨_,rfl⟩ (.cons ⟨_,rfl⟩ (.nil)))
    ·refine' ⟨_,rfl,Cs.tup_at ?l ?c ?d ?z ?v⟩
     (case l=>k_is);(case c=>rfl);(case d=>rfl);(case z=>decide);(case v=>exact .cons ⟨_,rfl⟩ (.cons ⟨_,rfl⟩ (.nil)))
    ·refine' ⟨_,rfl,Cs.tup_at ?l ?c ?d ?z ?v⟩
     (case l=>k_is);(case c=>rfl);(case d=>rfl);(case z=>decide);(case v=>exact .cons ⟨_,rfl⟩ (.cons ⟨_,rfl⟩ (.nil)))
    ·refine' ⟨_,rfl,Cs.tup_at ?l ?c ?d ?z ?v⟩
     (case l=>k_is);(case c=>rfl);(case d=>rfl);(case z=>decide);(case v=>exact .cons ⟨_,rfl⟩ (.cons ⟨_,rfl⟩ (.nil)))
    ·refine' ⟨_,rfl,Cs.tup_at ?l ?c ?d ?z ?v⟩
     (case l=>k_is);(case c=>rfl);(case d=>rfl);(case z=>decide);(case v=>exact .cons ⟨_,rfl⟩ (.cons ⟨_,rfl⟩ (.nil)))
    ·refine' ⟨_,rfl,Cs.tup_at ?l ?c ?d ?z ?v⟩
     (case l=>k_is);(case c=>rfl);(case d=>rfl);(case z=>decide);(case v=>exact .cons ⟨_,rfl⟩ (.cons ⟨_,rfl⟩ (.nil)))
  have T:Cs.Tx _ mg ⟨f_within,d_within,f_all_within,d_all_within,f_all_conditions,d_all_conditions,f_holds,d_holds,f_are_sets,d_are_sets,f_are_conditions,d_are_conditions,f_is_trick,d_is_trick,f_item_at,d_item_at,f_refusal_unless_doing,d_refusal_unless_doing,f_wants_cue,d_wants_cue,f_is_rescued,d_is_rescued,f_waits_for_cue,d_waits_for_cue,f_way_taken,d_way_taken,f_answer_send,d_answer_send,f_refusal_of_place,d_refusal_of_place,f_answer_lose,d_answer_lose,f_answer_double,d_answer_double,f_answer_deliver,d_answer_deliver,f_answer_tick,d_answer_tick,f_answer_cue_call,d_answer_cue_call,f_answer_glance,d_answer_glance,f_answer_state,d_answer_state,f_answer_log,d_answer_log,f_answer_wire,d_answer_wire,f_answer_look_call,d_answer_look_call,f_is_sure,d_is_sure,f_left_by,d_left_by,f_believed_behind,d_believed_behind,f_empty_plan,d_empty_plan,f_is_whole,d_is_whole,f_reason_against,d_reason_against,f_longer_plan,d_longer_plan,f_longer_plans,d_longer_plans,f_order_of,d_order_of,f_find_plan,d_find_plan,f_answer_runs,d_answer_runs,f_answer_plan,d_answer_plan,f_answer_plan_call,d_answer_plan_call,f_answer_props,d_answer_props,f_answer_trick,d_answer_trick,f_answer_reset,d_answer_reset,f_answer_hall,d_answer_hall,f_answer_told,d_answer_told,f_answer_setup_call,d_answer_setup_call,f_answer_start,d_answer_start,f_was_done,d_was_done,f_refusal_of_begin,d_refusal_of_begin,f_answer_begin,d_answer_begin,f_can_be_left,d_can_be_left,f_answer_finish,d_answer_finish,f_answer_close,d_answer_close,f_answer_show_call,d_answer_show_call,f_answer_call,d_answer_call,f_answers,d_answers,c_Item,f_Item_init,d_Item_init,c_House,f_House_init,d_House_init,c_Cue,f_Cue_init,d_Cue_init,c_Done,f_Done_init,d_Done_init,c_Show,f_Show_init,d_Show_init,f_Show_turn_to,d_Show_turn_to,c_Line,f_Line_init,d_Line_init,c_Plan,f_Plan_init,d_Plan_init,c_Reader,f_Reader_init,d_Reader_init,f_Reader_at_end,d_Reader_at_end,f_Reader_take,d_Reader_take,f_Reader_take_row,d_Reader_take_row⟩:=⟨x_within,x_all_within,x_all_conditions,x_holds,x_are_sets,x_are_conditions,x_is_trick,x_item_at,x_refusal_unless_doing,x_wants_cue,x_is_rescued,x_waits_for_cue,x_way_taken,x_answer_send,x_refusal_of_place,x_answer_lose,x_answer_double,x_answer_deliver,x_answer_tick,x_answer_cue_call,x_answer_glance,x_answer_state,x_answer_log,x_answer_wire,x_answer_look_call,x_is_sure,x_left_by,x_believed_behind,x_empty_plan,x_is_whole,x_reason_against,x_longer_plan,x_longer_plans,x_order_of,x_find_plan,x_answer_runs,x_answer_plan,x_answer_plan_call,x_answer_props,x_answer_trick,x_answer_reset,x_answer_hall,x_answer_told,x_answer_setup_call,x_answer_start,x_was_done,x_refusal_of_begin,x_answer_begin,x_can_be_left,x_answer_finish,x_answer_close,x_answer_show_call,x_answer_call,x_answers,cl_Item,⟨mk_Item,a_Item_init,i_Item_init,kc_Item⟩,mg_Item,x_Item_init,b_Item_init,no_Item_minutes,no_Item_wait,no_Item_need,no_Item_leave,no_Item_rescue,cl_House,⟨mk_House,a_House_init,i_House_init,kc_House⟩,mg_House,x_House_init,b_House_init,no_House_props,no_House_tricks,no_House_resets,no_House_limit,no_House_delay,no_House_beliefs,cl_Cue,⟨mk_Cue,a_Cue_init,i_Cue_init,kc_Cue⟩,mg_Cue,x_Cue_init,b_Cue_init,no_Cue_serial,no_Cue_number,no_Cue_value,no_Cue_age,cl_Done,⟨mk_Done,a_Done_init,i_Done_init,kc_Done⟩,mg_Done,x_Done_init,b_Done_init,no_Done_number,no_Done_taken,no_Done_rescued,cl_Show,⟨mk_Show,a_Show_init,i_Show_init,kc_Show⟩,mg_Show,x_Show_init,b_Show_init,x_Show_turn_to,b_Show_turn_to,⟨a_Show_turn_to,i_Show_turn_to,k_Show_turn_to⟩,no_Show_beliefs,no_Show_actual,no_Show_serial,no_Show_done,no_Show_minutes,no_Show_wire,no_Show_doing,no_Show_sent,no_Show_ticks,no_Show_taken,cl_Line,⟨mk_Line,a_Line_init,i_Line_init,kc_Line⟩,mg_Line,x_Line_init,b_Line_init,no_Line_house,no_Line_show,cl_Plan,⟨mk_Plan,a_Plan_init,i_Plan_init,kc_Plan⟩,mg_Plan,x_Plan_init,b_Plan_init,no_Plan_order,no_Plan_minutes,no_Plan_done,no_Plan_beliefs,cl_Reader,⟨mk_Reader,a_Reader_init,i_Reader_init,kc_Reader⟩,mg_Reader,x_Reader_init,b_Reader_init,x_Reader_at_end,b_Reader_at_end,⟨a_Reader_at_end,i_Reader_at_end,k_Reader_at_end⟩,x_Reader_take,b_Reader_take,⟨a_Reader_take,i_Reader_take,k_Reader_take⟩,x_Reader_take_row,b_Reader_take_row,⟨a_Reader_take_row,i_Reader_take_row,k_Reader_take_row⟩,no_Reader_calls,no_Reader_place,k_FIRST_RESET,k_MOST_TRICKS,k_MOST_RESETS,k_LAST_ITEM,k_OUT_OF_RANGE,k_WRONG_LIST,k_SHOW_ON_OR_OFF,k_NO_SUCH,k_BUSY_OR_IDLE,k_OVER_LIMIT,k_FULL,k_CANNOT_BE,k_TRICK_WAS_DONE,k_NOT_SURE,k_NO_CUE_WANTED,k_NO_CUE_AT_PLACE,k_NOT_AT_ITS_END,k_NO_ITEM,k_NO_VALUE,k_MOST_VALUE,k_MOST_CUES,k_MOST_TICKS,k_LAST_PROP,k_RUNS,k_NO_SUCH_ITEM,k_TRICK_WAS_THERE,k_ITEM_NOT_SURE,k_LIMIT_PASSED,k_NONE_FOUND,k_FOUND,k_STEPS_USED_UP,k_MOST_IN_LIST,k_MOST_STEPS,k_MOST_PROPS,k_LEAST_CONDITIONS,k_MOST_CONDITIONS,k_MOST_MINUTES,k_MOST_WAIT,k_MOST_LIMIT,k_MOST_DELAY,k_LAST_SETUP_CALL,k_LAST_PLAN_CALL,k_POWERS,k_CUE_CALLS,k_LOOK_CALLS,n_all,n_zip,n_range,n_enumerate,n_sorted,n_tuple,n_list,n_len,n_any⟩
  have e:=hmg.symm.trans x_answers.m
  cases e
  exact ⟨_,Cs.ans_binds x_answers,fun base _ _=>Cs.answers_ok T m_SHAPES⟩
 case S =>
  intro K H xs a hO hwi hask hx
  cases hx with
  | cons h1 h2 =>
   cases h2
   cases h1 with
   | lst hs ha =>
    have e:=L2.ints_dw a.1 _ ha
    subst e
    have q:((Codec.inLen 0 16000 a.1 && a.1.all (Codec.inInt (-1000000000000000000) 1000000000000000000)) && true)=true:=hwi
    rw [Bool.and_eq_true,Bool.and_eq_true] at q
    exact ⟨_,a.1,rfl,Cs.in_of hO hs,hask,Nat.le_trans (Codec.inNat_iff.mp q.1.1).2 (by decide),fun H' p hp=>.lst (L2.SqL.of hp) (L2.dw_ints _)⟩
