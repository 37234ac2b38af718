/-Grids in memory: a struct of one cell, which leads to a map by cells, . -/
import Derived.Test.YtecjfnkakodebaaGreatDoorQwXm
import Derived.Test.YtecjfnkakodebaaGreatDoorQwXd
import Derived.Deep.QuietTactic
import Derived.BigQuiet
set_option maxHeartbeats 8000000
set_option maxRecDepth 20000
namespace Go.Proofs.YtecjfnkakodebaaGreatDoor
open Go.RowKit Go.Maps
noncomputable def kl (c r:Int):Lit:=(keyOf Tryz.prog 32 (.agg #[.int .i64 c,.int .i64 r])).getD (.bool false)
theorem kl_key {c r:Int} (hc:I64 c) (hr:I64 r):keyOf Tryz.prog 32 (.agg #[.int .i64 c,.int .i64 r])=some (kl c r):=by
 obtain⟨l,hl⟩:=keyOf_addr c r hc hr
 have e:kl c r=l:=by unfold kl;rw[hl,Option.getD_some]
 rw[e];exact hl
theorem kl_inj {c r c' r':Int} (hc:I64 c) (hr:I64 r) (hc':I64 c') (hr':I64 r') (h:kl c r=kl c' r'):c=c'/\r=r':=by
 have h1:=kl_key hc hr
 have h2:=kl_key hc' hr'
 rw[<- h] at h2
 have:=lawAddr.inj h1 h2
 simpa using this
def rawE:Value->Option (DataW Value×List MemPlace):=fun v=>some (.held v,[])
def zCv:Value:=.agg #[.int .i64 0,.int .i64 0,.float .f64 0,.string ⟨#[]⟩,.bool false,.int .i64 0,.int .i64 0,.int .i64 0,.float .f64 0,.string ⟨#[]⟩,.bool false,.int .i64 0,.int .i64 0,.int .i64 0,.bool false,.bool false,.int .i64 0,.int .i64 0,.bool false,.bool false,.slice none 0 0]
theorem zeroC (w:World):(zeroValue 50).run Tryz.prog w=.ok zCv w:=by kernel_rfl
abbrev Cc:=(Int×Int)×Ct
structure MapHas (w:World) (F:Nat->Prop) (D:DataW Value) (L:List Cc):Prop where
 size:Maps.size D=L.length
 rng:∀x∈L,I64 x.1.1/\I64 x.1.2
 keys:∀c r,I64 c->I64 r->(Maps.has D (kl c r)=true↔∃ct,((c,r),ct)∈L)
 vals:∀c r ct,((c,r),ct)∈L->∃sl,D.atKey (kl c r) (.held zCv)=.held (ct.val sl)/\NdIn w F sl ct.t
 once:L.Pairwise (fun x y=>x.1≠y.1)
def GridIn (w:World) (F:Nat->Prop) (g:Nat) (L:List Cc):Prop:=
 F g/\((w.heap[g]? = some (.cells #[.map none] 96 (0,0))/\L=[]) ∨
  ∃m D,w.heap[g]? = some (.cells #[.map (some m)] 96 (0,0))/\F m/\m≠g/\w.ownsMap Tryz.prog 32 rawE m 4096 D/\MapHas w F D L)
theorem new_at (w:World):Calls Tryz.prog 32 #[] w fun e w'=>e=.returned (.pointer (some ⟨w.heap.size,0,none⟩))/\w'=w.alloc (.cells #[.map none] 96):=by
 go_enter Tryz.func32,Tryz.ntmps32
 go_wp2
 go_ret
 exact⟨rfl,rfl⟩
theorem grid_new (w:World) (F:Nat->Prop) (hF:F w.heap.size):GridIn (w.alloc (.cells #[.map none] 96)) F w.heap.size []:=
 ⟨hF,.inl ⟨heap_alloc_new _ _,rfl⟩⟩
theorem len_at (w:World) (F:Nat->Prop) (g:Nat) (L:List Cc) (h:GridIn w F g L):Calls Tryz.prog 26 #[.pointer (some ⟨g,0,none⟩)] w fun e w'=>e=.returned (.int .i64 L.length)/\w'=w:=by
 obtain⟨_,h⟩:=h
 rcases h with ⟨hb,rfl⟩|⟨m,D,hb,_,hne,hown,hm⟩
 ·have c0:w.cell? ⟨g,0,none⟩=some (.map none):=cell_of_row w g 0 _ _ _ hb
  clear hb
  go_enter Tryz.func26,Tryz.ntmps26
  go_wp2
  go_ret
  exact⟨rfl,rfl⟩
 ·have c0:w.cell? ⟨g,0,none⟩=some (.map (some m)):=cell_of_row w g 0 _ _ _ hb
  have HS:Hid (Maps.size D=L.length):=hm.size
  have HO:Hid (w.ownsMap Tryz.prog 32 rawE m 4096 D):=hown
  clear hb hown hm
  go_enter Tryz.func26,Tryz.ntmps26
  go_wp2_with (at_len;refine wpList_len_own _ rfl _ 94 rfl 32 50 Tryz.underlying94 rawE m 4096 D rfl HO.out ?_)
  go_ret
  exact⟨rInt (by rw[HS.out]),rfl⟩
structure Lk (w:World) (g:Nat) (c r:Int) (mv:Option Nat) (v:Value) (b:Bool):Prop where
 cell:w.heap[g]? = some (.cells #[.map mv] 96 (0,0))
 ne:∀m,mv=some m->m≠g/\m<w.heap.size
 two:∀w':World,(∀m,mv=some m->w'.heap[m]? = w.heap[m]?)->(Instr.lookup 94 (.map mv) (.agg #[.int .i64 c,.int .i64 r]) true).run Tryz.prog w'=.ok (.tuple #[v,.bool b]) w'
 one:∀w':World,(∀m,mv=some m->w'.heap[m]? = w.heap[m]?)->(Instr.lookup 94 (.map mv) (.agg #[.int .i64 c,.int .i64 r]) false).run Tryz.prog w'=.ok v w'
theorem ownsMap_block {w w':World} {m n:Nat} {D:DataW Value} (h:w.ownsMap Tryz.prog 32 rawE m n D) (hb:w'.heap[m]? = w.heap[m]?):w'.ownsMap Tryz.prog 32 rawE m n D:=by
 obtain⟨es,clock,h1,h2⟩:=h
 exact⟨es,clock,hb.trans h1,h2⟩
theorem raw_inj {v:Value} {d:DataW Value} {ps:List MemPlace} (h:rawE v=some (d,ps)):.held v=d:=congrArg Prod.fst (Option.some.inj h)
theorem lk_of {w:World} {F:Nat->Prop} {g:Nat} {L:List Cc} (h:GridIn w F g L) {c r:Int} (hc:I64 c) (hr:I64 r) :
  ∃mv v b,Lk w g c r mv v b/\((b=true/\∃ct sl,((c,r),ct)∈L/\v=ct.val sl/\NdIn w F sl ct.t)∨(b=false/\v=zCv/\∀ct,((c,r),ct)∉L)):=by
 obtain⟨_,h⟩:=h
 have hk:=kl_key hc hr
 rcases h with ⟨hb,rfl⟩|⟨m,D,hb,_,hne,hown,hm⟩
 ·refine⟨none,zCv,false,⟨hb,fun m e=>(by cases e),fun w' _=>?_,fun w' _=>?_⟩,.inr ⟨rfl,rfl,fun ct hct=>(by cases hct)⟩⟩
  ·exact Maps.look_nil true lawAddr Tryz.underlying94 (zeroC w') hk
  ·exact Maps.look_nil false lawAddr Tryz.underlying94 (zeroC w') hk
 ·have key2:∀w':World,(∀m',some m=some m'->w'.heap[m']? = w.heap[m']?)->∃v,(Instr.lookup 94 (.map (some m)) (.agg #[.int .i64 c,.int .i64 r]) true).run Tryz.prog w'=.ok (.tuple #[v,.bool (Maps.has D (kl c r))]) w'/\D.atKey (kl c r) (.held zCv)=.held v:=by
   intro w' hw'
   obtain⟨v,ps,h1,h2⟩:=(ownsMap_block hown (hw' m rfl)).look_ok lawAddr Tryz.underlying94 (zeroC w') (zd:=.held zCv) (zp:=[]) rfl hk
   refine⟨v,h1,?_⟩
   exact(raw_inj h2).symm
  have key1:∀w':World,(∀m',some m=some m'->w'.heap[m']? = w.heap[m']?)->∃v,(Instr.lookup 94 (.map (some m)) (.agg #[.int .i64 c,.int .i64 r]) false).run Tryz.prog w'=.ok v w'/\D.atKey (kl c r) (.held zCv)=.held v:=by
   intro w' hw'
   obtain⟨v,ps,h1,h2⟩:=(ownsMap_block hown (hw' m rfl)).lookup lawAddr Tryz.underlying94 (zeroC w') (zd:=.held zCv) (zp:=[]) rfl hk
   refine⟨v,h1,?_⟩
   exact(raw_inj h2).symm
  obtain⟨v,_,hv⟩:=key2 w (fun _ _=>rfl)
  have two:∀w':World,(∀m',some m=some m'->w'.heap[m']? = w.heap[m']?)->(Instr.lookup 94 (.map (some m)) (.agg #[.int .i64 c,.int .i64 r]) true).run Tryz.prog w'=.ok (.tuple #[v,.bool (Maps.has D (kl c r))]) w':=by
   intro w' hw'
   obtain⟨v',h1,h2⟩:=key2 w' hw'
   rw[hv] at h2
   rw[DataW.held.inj h2];exact h1
  have one:∀w':World,(∀m',some m=some m'->w'.heap[m']? = w.heap[m']?)->(Instr.lookup 94 (.map (some m)) (.agg #[.int .i64 c,.int .i64 r]) false).run Tryz.prog w'=.ok v w':=by
   intro w' hw'
   obtain⟨v',h1,h2⟩:=key1 w' hw'
   rw[hv] at h2
   rw[DataW.held.inj h2];exact h1
  refine⟨some m,v,Maps.has D (kl c r),⟨hb,fun m' e=>by cases e;exact⟨hne,hown.lt⟩,two,one⟩,?_⟩
  by_cases hh:Maps.has D (kl c r)=true
  ·obtain⟨ct,hct⟩:=(hm.keys c r hc hr).1 hh
   obtain⟨sl,h1,h2⟩:=hm.vals c r ct hct
   rw[hv] at h1
   exact .inl ⟨hh,ct,sl,hct,DataW.held.inj h1,h2⟩
  ·have hf:Maps.has D (kl c r)=false:=by simpa using hh
   refine .inr ⟨hf,?_,fun ct hct=>hh ((hm.keys c r hc hr).2 ⟨ct,hct⟩)⟩
   have:=atKey_of_not_has hf (.held zCv)
   rw[hv] at this
   exact DataW.held.inj this
theorem Kp.of_turned {w w':World} {m:Nat} (h:w.mapTurned w' m):Kp w w' (fun i=>i=m):=Kp.of_grown h.grown (fun i e=>by cases e;rfl)
theorem ownsMap_le {w:World} {m n n':Nat} {D:DataW Value} (h:w.ownsMap Tryz.prog 32 rawE m n D) (hn:n<=n'):w.ownsMap Tryz.prog 32 rawE m n' D:=by
 obtain⟨es,clock,h1,h2,h3,h4⟩:=h
 exact⟨es,clock,h1,h2,Nat.le_trans h3 hn,h4⟩
theorem eqIn_nilmap (w:World) (d:Nat) (p:Option Nat):(Op.equalIn (d+1) 94 (.map p) (.map none)).run Tryz.prog w=.ok p.isNone w:=by
 cases p <;> simp[Op.equalIn,run_underlying Tryz.underlying94]
theorem eq_nilmap (p:Option Nat) (w:World):(binOp .eql 94 (.map p) (.map none)).run Tryz.prog w=.ok (.bool p.isNone) w:=by
 simp only[binOp]
 simp[show Op.equal 94 (.map p) (.map none)=Op.equalIn (9999+1) 94 (.map p) (.map none) from rfl,eqIn_nilmap w 9999 p]
theorem key_put {k:TypeId} (K:Keyed Tryz.prog k) {v:Value} {l:Lit} (h:keyOf Tryz.prog k v=some l) {D:DataW Value} (hD:IsMap D) (d:DataW Value):Maps.has (D.put l d) l=true/\∀z,(D.put l d).atKey l z=d:=⟨has_put_same hD (K.key h) d,fun z=>atKey_put_same hD (K.key h) d z⟩
theorem has_one {w:World} {F:Nat->Prop} {c r:Int} {ct:Ct} {sl:Value} (hc:I64 c) (hr:I64 r) (hin:NdIn w F sl ct.t) :
  MapHas w F ((DataW.map []:DataW Value).put (kl c r) (.held (ct.val sl))) [((c,r),ct)]:=by
 have hk:=kl_key hc hr
 have hput:=key_put lawAddr hk (D:=(.map []:DataW Value)) ⟨_,rfl⟩ (.held (ct.val sl))
 have hne:∀x y,I64 x->I64 y->(x,y)≠(c,r)->kl x y≠kl c r:=fun x y hx hy h e=>h (by
  have:=kl_inj hx hy hc hr e
  exact Prod.ext this.1 this.2)
 refine⟨?_,fun x hx=>?_,fun x y hx hy=>?_,fun x y ct' h=>?_,List.pairwise_singleton _ _⟩
 ·generalize kl c r=K at *
  have hT:Tidy (DataW.map []:DataW Value):=by simp[Tidy]
  rw[size_put hT]
  rfl
 ·rw[List.mem_singleton] at hx;subst hx;exact⟨hc,hr⟩
 ·by_cases e:(x,y)=(c,r)
  ·cases e
   exact⟨fun _=>⟨ct,List.mem_singleton.2 rfl⟩,fun _=>hput.1⟩
  ·rw[has_put_other (hne x y hx hy e)]
   constructor
   ·intro h;cases h
   ·rintro⟨ct',h⟩
    rw[List.mem_singleton] at h
    cases h
    exact absurd rfl e
 ·rw[List.mem_singleton] at h
  cases h
  exact⟨sl,hput.2 _,hin⟩
def putL (L:List Cc) (k:Int×Int) (ct:Ct):List Cc:=(k,ct)::L.filter (fun x=>decide (x.1≠k))
theorem filt_none {L:List Cc} {k:Int×Int} (h:∀ct,(k,ct)∉L):L.filter (fun x=>decide (x.1≠k))=L:=by
 rw[List.filter_eq_self]
 intro x hx
 simp only[ne_eq,decide_not,Bool.not_eq_true',decide_eq_false_iff_not]
 intro e
 exact h x.2 (by rw[<- e];exact hx)
theorem filt_one {k:Int×Int} {ct:Ct}:∀ {L:List Cc},L.Pairwise (fun x y=>x.1≠y.1)->(k,ct)∈L->(L.filter (fun x=>decide (x.1≠k))).length+1=L.length
 | [],_,h=>by cases h
 | x::L,hp,h=>by
  have hp':=List.pairwise_cons.1 hp
  rcases List.mem_cons.1 h with e|e
  ·have hn:∀c',(k,c')∉L:=fun c' hc'=>(hp'.1 _ hc') (by rw[<- e])
   have hx:x.1=k:=by rw[<- e]
   rw[List.filter_cons_of_neg (by simp[hx]),filt_none hn,List.length_cons]
  ·have hx:x.1≠k:=hp'.1 _ e
   rw[List.filter_cons_of_pos (by simp[hx]),List.length_cons,List.length_cons,filt_one hp'.2 e]
theorem putL_once {L:List Cc} {k:Int×Int} {ct:Ct} (h:L.Pairwise (fun x y=>x.1≠y.1)):(putL L k ct).Pairwise (fun x y=>x.1≠y.1):=by
 refine List.pairwise_cons.2 ⟨fun x hx=>?_,List.Pairwise.filter _ h⟩
 have:=(List.mem_filter.1 hx).2
 simp only[ne_eq,decide_not,Bool.not_eq_true',decide_eq_false_iff_not] at this
 exact fun e=>this e.symm
theorem putL_mem {L:List Cc} {k:Int×Int} {ct:Ct} (x:Cc):x∈putL L k ct↔x=(k,ct)∨(x∈L/\x.1≠k):=by
 unfold putL
 rw[List.mem_cons,List.mem_filter]
 simp
theorem grid_put {w w':World} {F:Nat->Prop} {D:DataW Value} {L:List Cc} {m n:Nat} {c r:Int} {ct:Ct} {sl:Value} (hown:w.ownsMap Tryz.prog 32 rawE m n D) (hm:MapHas w F D L) (hc:I64 c) (hr:I64 r) (hin:NdIn w' F sl ct.t) (hold:∀sl t,NdIn w F sl t->NdIn w' F sl t) :
  MapHas w' F (D.put (kl c r) (.held (ct.val sl))) (putL L (c,r) ct):=by
 have hkey:=kl_key hc hr
 have hput:=key_put lawAddr hkey hown.isMap (.held (ct.val sl))
 have hT:=hown.tidy lawAddr
 have hne:∀x y,I64 x->I64 y->(x,y)≠(c,r)->kl x y≠kl c r:=fun x y hx hy h e=>h (by
  have:=kl_inj hx hy hc hr e
  exact Prod.ext this.1 this.2)
 refine⟨?_,fun x hx=>?_,fun x y hx hy=>?_,fun x y ct' h=>?_,putL_once hm.once⟩
 ·rw[size_put hT,hm.size]
  unfold putL
  rw[List.length_cons]
  by_cases hh:Maps.has D (kl c r)=true
  ·obtain⟨ct',hmem⟩:=(hm.keys c r hc hr).1 hh
   rw[if_pos hh,filt_one hm.once hmem]
  ·rw[if_neg hh,filt_none (fun ct' hmem=>hh ((hm.keys c r hc hr).2 ⟨ct',hmem⟩))]
 ·rcases(putL_mem x).1 hx with rfl|⟨h,_⟩
  ·exact⟨hc,hr⟩
  ·exact hm.rng x h
 ·by_cases e:(x,y)=(c,r)
  ·cases e
   exact⟨fun _=>⟨ct,(putL_mem _).2 (.inl rfl)⟩,fun _=>hput.1⟩
  ·rw[has_put_other (hne x y hx hy e),hm.keys x y hx hy]
   constructor
   ·rintro⟨ct',h⟩;exact⟨ct',(putL_mem _).2 (.inr ⟨h,e⟩)⟩
   ·rintro⟨ct',h⟩
    rcases(putL_mem _).1 h with h|h
    ·cases h;exact absurd rfl e
    ·exact⟨ct',h.1⟩
 ·rcases(putL_mem _).1 h with h|⟨h,e⟩
  ·cases h
   exact⟨sl,hput.2 _,hin⟩
  ·have hxy:=hm.rng _ h
   obtain⟨sl',e1,e2⟩:=hm.vals x y ct' h
   exact⟨sl',by rw[atKey_put_other (hne x y hxy.1 hxy.2 e)];exact e1,hold _ _ e2⟩
theorem exec_load_content {o:Oper} {a:Act} {x:Operand} {g:Nat} {w:World} (cs:Array Value) (ho:o.op=.load 50 x) (hx:a.eval x=.pointer (some ⟨g,0,none⟩)) (hg:w.heap[g]? = some (.cells cs 50 (0,0))) (hcs:cs.size=21) :
  (execOp a.eval o).run Tryz.prog w=.ok (.value (.agg cs)) w:=by
 have hl:=run_loadVar_row (P:=Tryz.prog) w g 50 50 cs (0,0) _ hg Tryz.underlying50 rfl (by rw[hcs];exact infoContent)
 unfold execOp
 simp only[ho,hx,Instr.loadAt,Instr.sureAddr,Sem.run_bind,Sem.run_pure,Result.andThen_ok,hl]
theorem keep_first (g:Nat) (c r:Int) (hc:I64 c) (hr:I64 r) (ct:Ct) (sl:Value) (F:Nat->Prop) (w:World) (hb:Blk w g [.map none] 96) (hF:F g) (hFn:∀i,w.heap.size<=i->F i) (hin:NdIn w (fun b=>F b/\b≠g/\b<w.heap.size) sl ct.t) :
  Calls Tryz.prog 46 #[.pointer (some ⟨g,0,none⟩),.agg #[.int .i64 c,.int .i64 r],ct.val sl] w fun e w'=>e=.returned (.tuple #[])/\GridIn w' F g [((c,r),ct)]/\Kp w w' (fun i=>i=g):=by
 have hkey:=kl_key hc hr
 obtain⟨W1,hW1⟩:∃W1,(w.alloc (.cells #[.int .i64 c,.int .i64 r] 32)).alloc (.cells (ct.cells sl).toArray 50)=W1:=⟨_,rfl⟩
 have k1:Kp w W1 Nul:=by rw[<- hW1];exact((Kp.refl w Nul).alloc _).alloc _
 have s1:W1.heap.size=w.heap.size+1+1:=by rw[<- hW1];simp
 have hglt:g<w.heap.size:=hb.lt
 have hA1:Blk W1 w.heap.size [.int .i64 c,.int .i64 r] 32:=by rw[<- hW1];exact(Blk.new w [.int .i64 c,.int .i64 r] _).alloc _
 have hC1:Blk W1 (w.heap.size+1) (ct.cells sl) 50:=by
  have:=Blk.new (w.alloc (.cells #[.int .i64 c,.int .i64 r] 32)) (ct.cells sl) 50
  rw[World.size_alloc] at this
  rw[<- hW1];exact this
 have hb1:=hb.kp k1 (fun x=>x)
 obtain⟨W2,hW2⟩:∃W2,W1.alloc (.map #[] 0)=W2:=⟨_,rfl⟩
 obtain⟨W3,hW3⟩:∃W3,W2.setCell ⟨g,0,none⟩ (.map (some W1.heap.size))=W3:=⟨_,rfl⟩
 have k2:Kp W1 W2 Nul:=by rw[<- hW2];exact(Kp.refl W1 Nul).alloc _
 have hlne:W1.heap.size≠g:=by omega
 have hown2:W2.ownsMap Tryz.prog 32 rawE W1.heap.size 0 (.map []):=by rw[<- hW2];exact World.ownsMap_made W1 _ _ _
 have hown3:W3.ownsMap Tryz.prog 32 rawE W1.heap.size 0 (.map []):=by rw[<- hW3];exact hown2.setCell hlne _
 have k3:Kp W2 W3 (fun i=>i=g):=by rw[<- hW3];exact(Kp.refl W2 _).setCell ⟨g,0,none⟩ _ (.inr rfl)
 have hb2:=hb1.kp k2 (fun x=>x)
 have hb3:Blk W3 g [.map (some W1.heap.size)] 96:=by rw[<- hW3];exact hb2.set 0 _
 have hA3:=(hA1.kp k2 (fun x=>x)).kp k3 (by show ¬w.heap.size=g;omega)
 have hC3:=(hC1.kp k2 (fun x=>x)).kp k3 (by show ¬w.heap.size+1=g;omega)
 obtain⟨W4,hrun,hown4,hturn⟩:=hown3.drew.store lawAddr Tryz.underlying94 (by decide) hkey (val:=ct.val sl) (d:=.held (ct.val sl)) (ps:=[]) rfl
 have k4:Kp W3 W4 (fun i=>i=W1.heap.size):=((Kp.refl W3 _).drew).trans (Kp.of_turned hturn)
 have k03:Kp w W3 (fun i=>i=g):=(k1.trans k2).of_nul.trans' k3 (fun i _ e=>e)
 have k04:Kp w W4 (fun i=>i=g):=k03.trans' k4 (fun i hi e=>absurd e (by omega))
 have hin4:NdIn W4 F sl ct.t:=hin.mono (fun b hB _=>⟨k04.block b hB.2.2 hB.2.1,hB.1⟩)
 have hHas:=has_one (F:=F) hc hr hin4
 have HEND:Hid (GridIn W4 F g [((c,r),ct)]/\Kp w W4 (fun i=>i=g)):=⟨⟨hF,.inr ⟨W1.heap.size,_,hb3.kp k4 (by show ¬g=W1.heap.size;omega),hFn _ (by omega),hlne,ownsMap_le hown4 (by decide),hHas⟩⟩,k04⟩
 have HW1:Hid ((w.alloc (.cells #[.int .i64 c,.int .i64 r] 32)).alloc (.cells (ct.cells sl).toArray 50)=W1):=hW1
 have HW2:Hid (W1.alloc (.map #[] 0)=W2):=hW2
 have HW3:Hid (W2.setCell ⟨g,0,none⟩ (.map (some W1.heap.size))=W3):=hW3
 have c1:W1.cell? ⟨g,0,none⟩=some (.map none):=hb1.cell rfl
 have c2:W2.cell? ⟨g,0,none⟩=some (.map none):=hb2.cell rfl
 have f2:W2.frozen? ⟨g,0,none⟩=false:=hb2.froz _
 have c3:W3.cell? ⟨g,0,none⟩=some (.map (some W1.heap.size)):=hb3.cell rfl
 have c4:W3.cell? ⟨w.heap.size,0,none⟩=some (.int .i64 c):=hA3.cell rfl
 have c5:W3.cell? ⟨w.heap.size,1,none⟩=some (.int .i64 r):=hA3.cell rfl
 have hmm:(Instr.makeMap 94 none).run Tryz.prog W1=.ok (.map (some W1.heap.size)) W2:=by rw[<- hW2];rfl
 have HS3:Hid (W3.cell? ⟨g,0,none⟩=some (.map (some (w.heap.size+1+1)))/\W3.cell? ⟨w.heap.size,0,none⟩=some (.int .i64 c)/\W3.cell? ⟨w.heap.size,1,none⟩=some (.int .i64 r)/\Blk W3 (w.heap.size+1) (ct.cells sl) 50):=⟨by rw[<- s1];exact c3,c4,c5,hC3⟩
 have HS4:Hid (W4.cell? ⟨g,0,none⟩=some (.map (some (w.heap.size+1+1)))/\W4.cell? ⟨w.heap.size,0,none⟩=some (.int .i64 c)/\W4.cell? ⟨w.heap.size,1,none⟩=some (.int .i64 r)/\Blk W4 (w.heap.size+1) (ct.cells sl) 50):=⟨by rw[<- s1];exact(hb3.kp k4 (by show ¬g=W1.heap.size;omega)).cell rfl,(hA3.kp k4 (by show ¬w.heap.size=W1.heap.size;omega)).cell rfl,(hA3.kp k4 (by show ¬w.heap.size=W1.heap.size;omega)).cell rfl,hC3.kp k4 (by show ¬w.heap.size+1=W1.heap.size;omega)⟩
 rw[s1] at HW3 c3 hmm hrun
 have hnil:=eq_nilmap none
 clear hb hin hF hFn hW2 hW3 k1 k2 k3 k4 k03 k04 hA1 hC1 hA3 hC3 hb1 hb2 hb3 hown2 hown3 hown4 hturn hHas hin4 hkey s1 hlne hglt
 go_enter Tryz.func46,Tryz.ntmps46
 go_wp2_with fail
 rw[HW3.out]
 clear HW1 HW2 HW3 hW1
 refine wp_region_noPanic ?_
 refine wp_region_hel (fun w':World=>w'.cell? ⟨g,0,none⟩=some (.map (some (w.heap.size+1+1)))/\w'.cell? ⟨w.heap.size,0,none⟩=some (.int .i64 c)/\w'.cell? ⟨w.heap.size,1,none⟩=some (.int .i64 r)/\Blk w' (w.heap.size+1) (ct.cells sl) 50) (by kernel_rfl) (HS3.out) (fun hHeld=>?_)
 have tok0:True:=trivial
 have tok1:True:=trivial
 have tok2:True:=trivial
 have tok3:True:=trivial
 have tok4:True:=trivial
 iterate 5 ((first|(clear tok0;refine wpH_takes (i:=0) (v:=?_) (some 15) rfl rfl (by kernel_rfl) (fun _ _ _ h=>h) (Or.inl ⟨by rfl,?_⟩) hHeld ?_)|(clear tok1;refine wpH_takes (i:=1) (v:=?_) (some 16) rfl rfl (by kernel_rfl) (fun _ _ _ h=>h) (Or.inl ⟨by rfl,?_⟩) hHeld ?_)|(clear tok2;refine wpH_takes (i:=2) (v:=?_) (some 17) rfl rfl (by kernel_rfl) (fun _ _ _ h=>h) (Or.inl ⟨by rfl,?_⟩) hHeld ?_)|(clear tok3;refine wpH_takes (i:=3) (v:=?_) (some 18) rfl rfl (by kernel_rfl) (fun _ _ _ h=>h) (Or.inl ⟨by rfl,?_⟩) hHeld ?_)|(clear tok4;refine wpH_takes (i:=4) (v:=?_) (some 19) rfl rfl (by kernel_rfl) (fun _ _ _ h=>h) (Or.inl ⟨by rfl,?_⟩) hHeld ?_));rotate_left;(· intro w hSw;obtain⟨s0,s1,s2,s3⟩:=hSw;clear s3;go_simp;try with_reducible rfl);simp only[Act.put,Sz0,Sz1,Sz2])
 refine wpH_takes (i:=5) (v:=ct.val sl) (some 20) rfl rfl (by kernel_rfl) (fun _ _ _ h=>h) (Or.inl ⟨by rfl,fun w' hSw=>exec_load_content _ rfl rfl hSw.2.2.2 rfl⟩) hHeld ?_
 simp only[Act.put,Sz0,Sz1,Sz2]
 generalize ct.val sl=V at *
 refine wpH_step (i:=6) (by kernel_rfl) rfl rfl (fun K hK=>?_)
 go_simp
 refine hK.out _ _ HS4.out (fun _=>?_)
 clear hK K hHeld
 refine wpAnyH_done (by kernel_rfl) ?_ _
 refine NoPanic.normal ?_
 go_wp2_with fail
 go_end0
 exact⟨rfl,HEND.out⟩
theorem ownsMap_tight {w:World} {m n:Nat} {D:DataW Value} (h:w.ownsMap Tryz.prog 32 rawE m n D):w.ownsMap Tryz.prog 32 rawE m (Maps.size D) D:=by
 obtain⟨es,clock,h1,h2,h3,rfl⟩:=h
 refine⟨es,clock,h1,h2,?_,rfl⟩
 show es.size<=List.length _
 rw[length_read]
 exact Nat.le_refl _
theorem keep_more (g m:Nat) (c r:Int) (hc:I64 c) (hr:I64 r) (ct:Ct) (sl:Value) (F:Nat->Prop) (D:DataW Value) (L:List Cc) (w:World) (hb:Blk w g [.map (some m)] 96) (hF:F g) (hFm:F m) (hne:m≠g) (hown:w.ownsMap Tryz.prog 32 rawE m 4096 D) (hm:MapHas w F D L) (hroom:(putL L (c,r) ct).length<=4096) (hin:NdIn w F sl ct.t) (hold:∀w',Kp w w' (fun i=>i=m)->∀sl t,NdIn w F sl t->NdIn w' F sl t) :
  Calls Tryz.prog 46 #[.pointer (some ⟨g,0,none⟩),.agg #[.int .i64 c,.int .i64 r],ct.val sl] w fun e w'=>e=.returned (.tuple #[])/\GridIn w' F g (putL L (c,r) ct)/\Kp w w' (fun i=>i=m):=by
 have hkey:=kl_key hc hr
 obtain⟨W1,hW1⟩:∃W1,(w.alloc (.cells #[.int .i64 c,.int .i64 r] 32)).alloc (.cells (ct.cells sl).toArray 50)=W1:=⟨_,rfl⟩
 have k1:Kp w W1 Nul:=by rw[<- hW1];exact((Kp.refl w Nul).alloc _).alloc _
 have hmlt:=hown.lt
 have hA1:Blk W1 w.heap.size [.int .i64 c,.int .i64 r] 32:=by rw[<- hW1];exact(Blk.new w [.int .i64 c,.int .i64 r] _).alloc _
 have hC1:Blk W1 (w.heap.size+1) (ct.cells sl) 50:=by
  have:=Blk.new (w.alloc (.cells #[.int .i64 c,.int .i64 r] 32)) (ct.cells sl) 50
  rw[World.size_alloc] at this
  rw[<- hW1];exact this
 have hb1:=hb.kp k1 (fun x=>x)
 have hown1:=ownsMap_block hown (k1.block m hmlt (fun x=>x))
 obtain⟨W4,hrun,hown4,hturn⟩:=hown1.drew.store lawAddr Tryz.underlying94 (by decide) hkey (val:=ct.val sl) (d:=.held (ct.val sl)) (ps:=[]) rfl
 have k4:Kp W1 W4 (fun i=>i=m):=((Kp.refl W1 _).drew).trans (Kp.of_turned hturn)
 have k04:Kp w W4 (fun i=>i=m):=k1.of_nul.trans k4
 have hHas:=grid_put hown hm hc hr (hold W4 k04 sl ct.t hin) (hold W4 k04)
 have HEND:Hid (GridIn W4 F g (putL L (c,r) ct)/\Kp w W4 (fun i=>i=m)):=⟨⟨hF,.inr ⟨m,_,hb1.kp k4 (fun e=>hne e.symm),hFm,hne,ownsMap_le (ownsMap_tight hown4) (by rw[hHas.size];exact hroom),hHas⟩⟩,k04⟩
 have HW1:Hid ((w.alloc (.cells #[.int .i64 c,.int .i64 r] 32)).alloc (.cells #[.int .i64 ct.k,.int .i64 ct.v.k,.float .f64 ct.v.x,.string ct.v.s,.bool ct.v.b,.int .i64 ct.v.f,.int .i64 ct.t.hd.k,.int .i64 ct.t.hd.o,.float .f64 ct.t.hd.x,.string ct.t.hd.s,.bool ct.t.hd.b,.int .i64 ct.t.hd.f,.int .i64 ct.t.hd.c1,.int .i64 ct.t.hd.r1,.bool ct.t.hd.p1,.bool ct.t.hd.q1,.int .i64 ct.t.hd.c2,.int .i64 ct.t.hd.r2,.bool ct.t.hd.p2,.bool ct.t.hd.q2,sl] 50)=W1):=hW1
 have c1:W1.cell? ⟨g,0,none⟩=some (.map (some m)):=hb1.cell rfl
 have HS3:Hid (W1.cell? ⟨g,0,none⟩=some (.map (some m))/\W1.cell? ⟨w.heap.size,0,none⟩=some (.int .i64 c)/\W1.cell? ⟨w.heap.size,1,none⟩=some (.int .i64 r)/\Blk W1 (w.heap.size+1) (ct.cells sl) 50):=⟨c1,hA1.cell rfl,hA1.cell rfl,hC1⟩
 have HS4:Hid (W4.cell? ⟨g,0,none⟩=some (.map (some m))/\W4.cell? ⟨w.heap.size,0,none⟩=some (.int .i64 c)/\W4.cell? ⟨w.heap.size,1,none⟩=some (.int .i64 r)/\Blk W4 (w.heap.size+1) (ct.cells sl) 50):=⟨(hb1.kp k4 (fun e=>hne e.symm)).cell rfl,(hA1.kp k4 (by show ¬w.heap.size=m;omega)).cell rfl,(hA1.kp k4 (by show ¬w.heap.size=m;omega)).cell rfl,hC1.kp k4 (by show ¬w.heap.size+1=m;omega)⟩
 have cL:((w.alloc (.cells #[.int .i64 c,.int .i64 r] 32)).alloc (.cells #[.int .i64 ct.k,.int .i64 ct.v.k,.float .f64 ct.v.x,.string ct.v.s,.bool ct.v.b,.int .i64 ct.v.f,.int .i64 ct.t.hd.k,.int .i64 ct.t.hd.o,.float .f64 ct.t.hd.x,.string ct.t.hd.s,.bool ct.t.hd.b,.int .i64 ct.t.hd.f,.int .i64 ct.t.hd.c1,.int .i64 ct.t.hd.r1,.bool ct.t.hd.p1,.bool ct.t.hd.q1,.int .i64 ct.t.hd.c2,.int .i64 ct.t.hd.r2,.bool ct.t.hd.p2,.bool ct.t.hd.q2,sl] 50)).cell? ⟨g,0,none⟩=some (.map (some m)):=by rw[HW1.out];exact c1
 have hnil:=eq_nilmap (some m)
 clear hb hin hF hFm hW1 k1 k4 k04 hA1 hC1 hb1 hown hown1 hown4 hturn hHas hkey hne hm hroom hold hmlt c1
 go_enter Tryz.func46,Tryz.ntmps46
 go_wp2_with fail
 rw[HW1.out]
 clear HW1
 refine wp_region_noPanic ?_
 refine wp_region_hel (fun w':World=>w'.cell? ⟨g,0,none⟩=some (.map (some m))/\w'.cell? ⟨w.heap.size,0,none⟩=some (.int .i64 c)/\w'.cell? ⟨w.heap.size,1,none⟩=some (.int .i64 r)/\Blk w' (w.heap.size+1) (ct.cells sl) 50) (by kernel_rfl) (HS3.out) (fun hHeld=>?_)
 have tok0:True:=trivial
 have tok1:True:=trivial
 have tok2:True:=trivial
 have tok3:True:=trivial
 have tok4:True:=trivial
 iterate 5 ((first|(clear tok0;refine wpH_takes (i:=0) (v:=?_) (some 15) rfl rfl (by kernel_rfl) (fun _ _ _ h=>h) (Or.inl ⟨by rfl,?_⟩) hHeld ?_)|(clear tok1;refine wpH_takes (i:=1) (v:=?_) (some 16) rfl rfl (by kernel_rfl) (fun _ _ _ h=>h) (Or.inl ⟨by rfl,?_⟩) hHeld ?_)|(clear tok2;refine wpH_takes (i:=2) (v:=?_) (some 17) rfl rfl (by kernel_rfl) (fun _ _ _ h=>h) (Or.inl ⟨by rfl,?_⟩) hHeld ?_)|(clear tok3;refine wpH_takes (i:=3) (v:=?_) (some 18) rfl rfl (by kernel_rfl) (fun _ _ _ h=>h) (Or.inl ⟨by rfl,?_⟩) hHeld ?_)|(clear tok4;refine wpH_takes (i:=4) (v:=?_) (some 19) rfl rfl (by kernel_rfl) (fun _ _ _ h=>h) (Or.inl ⟨by rfl,?_⟩) hHeld ?_));rotate_left;(· intro w hSw;obtain⟨s0,s1,s2,s3⟩:=hSw;clear s3;go_simp;try with_reducible rfl);simp only[Act.put,Sz0,Sz1,Sz2])
 refine wpH_takes (i:=5) (v:=ct.val sl) (some 20) rfl rfl (by kernel_rfl) (fun _ _ _ h=>h) (Or.inl ⟨by rfl,fun w' hSw=>exec_load_content _ rfl rfl hSw.2.2.2 rfl⟩) hHeld ?_
 simp only[Act.put,Sz0,Sz1,Sz2]
 generalize ct.val sl=V at *
 refine wpH_step (i:=6) (by kernel_rfl) rfl rfl (fun K hK=>?_)
 go_simp
 refine hK.out _ _ HS4.out (fun _=>?_)
 clear hK K hHeld
 refine wpAnyH_done (by kernel_rfl) ?_ _
 refine NoPanic.normal ?_
 go_wp2_with fail
 go_end0
 exact⟨rfl,HEND.out⟩
theorem results_cell1 {fn:Func} {p:Tmp} {ty:TypeId} (h:fn.results=#[.cell p ty]) (tmps:Array Value) (P:Program) (w:World) :
  (results fn tmps).run P w=((asAddr (tmps.getD p undef)).run P w).andThen fun a w1=>(loadVar ty a).run P w1:=by
 simp only[results,h]
 simp[Sem.run_bind,Result.andThen]
 try rfl
end Go.Proofs.YtecjfnkakodebaaGreatDoor
