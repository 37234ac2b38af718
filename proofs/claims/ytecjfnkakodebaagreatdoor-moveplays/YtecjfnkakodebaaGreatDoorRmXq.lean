/-Grids in memory: a struct of one cell, which leads to a map by cells, . -/
import Derived.Test.YtecjfnkakodebaaGreatDoorRmXm
import Derived.Deep.QuietTactic
import Derived.BigQuiet
import Derived.Deep.CutRange
import Derived.RangeFuncNested
import Derived.RangeFuncBound
import Derived.RangeFuncCalls
import Derived.RangeFuncLeaves
import Derived.Shelf.Abstract
import Derived.OwnWalkIn
import Derived.TacticsInMore
import Derived.LoopNIn
import Derived.LoopIn
import Derived.Laws.EntriesVeiled
import Derived.Test.YtecjfnkakodebaaGreatDoorRmQa
open Go.Proofs.Tryz
open Go.Value renaming int->O,bool->E,slice->U,agg->T,pointer->an,float->ap,string->aq,tuple->au
open Go.IntKind renaming i64->I
open Bool renaming false->R,true->J
open Option renaming some->H,none->G
open Go.Ending renaming returned->Q
open Go.FloatKind renaming f64->ao
set_option maxHeartbeats 8000000
set_option maxRecDepth 100000
namespace Go.Proofs.YtecjfnkakodebaaGreatDoor
section
open Go.RowKit Go.Maps
noncomputable def kl (c r:Int):Lit:=(keyOf prog 32 (T #[O I c,O I r])).getD (Lit.bool R)
theorem X0 {c r:Int}(hc:I64 c)(hr:I64 r):keyOf prog 32 (T #[O I c,O I r])=H (kl c r):=by
 obtain⟨l,hl⟩:=jAe c r hc hr;have e:kl c r=l:=by unfold kl;rw[hl,Option.getD_some]
 rw[e];exact hl
theorem j1x {c r c' r':Int}(hc:I64 c)(hr:I64 r)(hc':I64 c')(hr':I64 r')(h:kl c r=kl c' r'):c=c'/\r=r':=by
 have h1:=X0 hc hr;have h2:=X0 hc' hr';rw[<- h] at h2;have:=Q2.inj h1 h2
 simpa using this
def rawE:Value->Option (DataW Value×List MemPlace):=fun v=>H (.held v,[])
def zCv:Value:=T #[O I 0,O I 0,ap ao 0,aq ⟨#[]⟩,E R,O I 0,O I 0,O I 0,ap ao 0,aq ⟨#[]⟩,E R,O I 0,O I 0,O I 0,E R,E R,O I 0,O I 0,E R,E R,U G 0 0]
theorem j2i (w:World):(zeroValue 50).run prog w=.ok zCv w:=by kernel_rfl
abbrev Cc:=(Int×Int)×Ct
structure j0N (w:World) (F:Nat->Prop) (D:DataW Value) (L:List Cc):Prop where
 size:Maps.size D=L.length
 rng:∀x∈L,I64 x.1.1/\I64 x.1.2
 keys:∀c r,I64 c->I64 r->(Maps.has D (kl c r)=J↔∃ct,((c,r),ct)∈L)
 vals:∀c r ct,((c,r),ct)∈L->∃sl,D.atKey (kl c r) (.held zCv)=.held (ct.val sl)/\NdIn w F sl ct.t
 once:L.Pairwise (fun x y=>x.1≠y.1)
def j6 (w:World) (F:Nat->Prop) (g:Nat) (L:List Cc):Prop:=
 F g/\((w.heap[g]? = H (.cells #[.map G] 96 (0,0))/\L=[]) ∨
  ∃m D,w.heap[g]? = H (.cells #[.map (H m)] 96 (0,0))/\F m/\m≠g/\w.ownsMap prog 32 rawE m 4096 D/\j0N w F D L)
theorem j26 (w:World):Calls prog 32 #[] w fun e w'=>e=Q (an (H ⟨w.heap.size,0,G⟩))/\w'=w.alloc (.cells #[.map G] 96):=by
 go_enter func32,ntmps32;go_wp2;go_ret;exact⟨rfl,rfl⟩
theorem j5L (w:World)(F:Nat->Prop)(hF:F w.heap.size):j6 (w.alloc (.cells #[.map G] 96)) F w.heap.size []:=
 ⟨hF,.inl ⟨heap_alloc_new _ _,rfl⟩⟩
theorem jAp (w:World)(F:Nat->Prop)(g:Nat)(L:List Cc)(h:j6 w F g L):Calls prog 26 #[an (H ⟨g,0,G⟩)] w fun e w'=>e=Q (O I L.length)/\w'=w:=by
 obtain⟨_,h⟩:=h;rcases h with ⟨hb,rfl⟩|⟨m,D,hb,_,hne,hown,hm⟩
 ·have c0:=cell_of_row w g 0 _ _ _ hb;clear hb;go_enter func26,ntmps26;go_wp2;go_ret;exact⟨rfl,rfl⟩
 ·have c0:=cell_of_row w g 0 _ _ _ hb;have HS:=h_ hm.size;have HO:=h_ hown;clear hb hown hm;go_enter func26,ntmps26;go_wp2_with (at_len;refine wpList_len_own _ rfl _ 94 rfl 32 50 underlying94 rawE m 4096 D rfl HO.o ?_);go_ret;exact⟨rInt (by rw[HS.o]),rfl⟩
structure Lk (w:World) (g:Nat) (c r:Int) (mv:Option Nat) (v:Value) (b:Bool):Prop where
 cell:w.heap[g]? = H (.cells #[.map mv] 96 (0,0))
 ne:∀m,mv=H m->m≠g/\m<w.heap.size
 two:∀w':World,(∀m,mv=H m->w'.heap[m]? = w.heap[m]?)->(Instr.lookup 94 (.map mv) (T #[O I c,O I r]) J).run prog w'=.ok (au #[v,E b]) w'
 one:∀w':World,(∀m,mv=H m->w'.heap[m]? = w.heap[m]?)->(Instr.lookup 94 (.map mv) (T #[O I c,O I r]) R).run prog w'=.ok v w'
theorem j0T {w w':World}{m n:Nat}{D:DataW Value}(h:w.ownsMap prog 32 rawE m n D)(hb:w'.heap[m]? = w.heap[m]?):w'.ownsMap prog 32 rawE m n D:=by
 obtain⟨es,clock,h1,h2⟩:=h;exact⟨es,clock,hb.trans h1,h2⟩
theorem j6T {v:Value}{d:DataW Value}{ps:List MemPlace}(h:rawE v=H (d,ps)):.held v=d:=congrArg Prod.fst (Option.some.inj h)
theorem j3M {w:World}{F:Nat->Prop}{g:Nat}{L:List Cc}(h:j6 w F g L){c r:Int}(hc:I64 c)(hr:I64 r):
 ∃mv v b,Lk w g c r mv v b/\((b=J/\∃ct sl,((c,r),ct)∈L/\v=ct.val sl/\NdIn w F sl ct.t)∨(b=R/\v=zCv/\∀ct,((c,r),ct)∉L)):=by
 obtain⟨_,h⟩:=h;have hk:=X0 hc hr;rcases h with ⟨hb,rfl⟩|⟨m,D,hb,_,hne,hown,hm⟩
 ·refine⟨G,zCv,R,⟨hb,fun m e=>(by cases e),fun w' _=>?_,fun w' _=>?_⟩,.inr ⟨rfl,rfl,fun ct hct=>(by cases hct)⟩⟩
  ·exact Maps.look_nil J Q2 underlying94 (j2i w') hk
  ·exact Maps.look_nil R Q2 underlying94 (j2i w') hk
 ·have key2:∀w':World,(∀m',H m=H m'->w'.heap[m']? = w.heap[m']?)->∃v,(Instr.lookup 94 (.map (H m)) (T #[O I c,O I r]) J).run prog w'=.ok (au #[v,E (Maps.has D (kl c r))]) w'/\D.atKey (kl c r) (.held zCv)=.held v:=by
   intro w' hw';obtain⟨v,ps,h1,h2⟩:=(j0T hown (hw' m rfl)).look_ok Q2 underlying94 (j2i w') (zd:=.held zCv) (zp:=[]) rfl hk;refine⟨v,h1,?_⟩;exact(j6T h2).symm
  have key1:∀w':World,(∀m',H m=H m'->w'.heap[m']? = w.heap[m']?)->∃v,(Instr.lookup 94 (.map (H m)) (T #[O I c,O I r]) R).run prog w'=.ok v w'/\D.atKey (kl c r) (.held zCv)=.held v:=by
   intro w' hw';obtain⟨v,ps,h1,h2⟩:=(j0T hown (hw' m rfl)).lookup Q2 underlying94 (j2i w') (zd:=.held zCv) (zp:=[]) rfl hk;refine⟨v,h1,?_⟩;exact(j6T h2).symm
  obtain⟨v,_,hv⟩:=key2 w (fun _ _=>rfl);have two:∀w':World,(∀m',H m=H m'->w'.heap[m']? = w.heap[m']?)->(Instr.lookup 94 (.map (H m)) (T #[O I c,O I r]) J).run prog w'=.ok (au #[v,E (Maps.has D (kl c r))]) w':=by
   intro w' hw';obtain⟨v',h1,h2⟩:=key2 w' hw';rw[hv] at h2;rw[DataW.held.inj h2];exact h1
  have one:∀w':World,(∀m',H m=H m'->w'.heap[m']? = w.heap[m']?)->(Instr.lookup 94 (.map (H m)) (T #[O I c,O I r]) R).run prog w'=.ok v w':=by
   intro w' hw';obtain⟨v',h1,h2⟩:=key1 w' hw';rw[hv] at h2;rw[DataW.held.inj h2];exact h1
  refine⟨H m,v,Maps.has D (kl c r),⟨hb,fun m' e=>by cases e;exact⟨hne,hown.lt⟩,two,one⟩,?_⟩;by_cases hh:Maps.has D (kl c r)=J
  ·obtain⟨ct,hct⟩:=(hm.keys c r hc hr).1 hh;obtain⟨sl,h1,h2⟩:=hm.vals c r ct hct;rw[hv] at h1;exact .inl ⟨hh,ct,sl,hct,DataW.held.inj h1,h2⟩
  ·have hf:Maps.has D (kl c r)=R:=(by simpa using hh);refine .inr ⟨hf,?_,fun ct hct=>hh ((hm.keys c r hc hr).2 ⟨ct,hct⟩)⟩;have:=atKey_of_not_has hf (.held zCv);rw[hv] at this;exact DataW.held.inj this
theorem Kp.of_turned {w w':World}{m:Nat}(h:w.mapTurned w' m):Kp w w' (fun i=>i=m):=Kp.of_grown h.grown (fun i e=>by cases e;rfl)
theorem j6B {w:World}{m n n':Nat}{D:DataW Value}(h:w.ownsMap prog 32 rawE m n D)(hn:n<=n'):w.ownsMap prog 32 rawE m n' D:=by
 obtain⟨es,clock,h1,h2,h3,h4⟩:=h;exact⟨es,clock,h1,h2,Nat.le_trans h3 hn,h4⟩
theorem j9j (w:World)(d:Nat)(p:Option Nat):(Op.equalIn (d+1) 94 (.map p) (.map G)).run prog w=.ok p.isNone w:=by
 cases p <;> simp[Op.equalIn,run_underlying underlying94]
theorem j51 (p:Option Nat)(w:World):(binOp .eql 94 (.map p) (.map G)).run prog w=.ok (E p.isNone) w:=by
 simp only[binOp];simp[show Op.equal 94 (.map p) (.map G)=Op.equalIn (9999+1) 94 (.map p) (.map G) from rfl,j9j w 9999 p]
theorem j5l {k:TypeId}(K:Keyed prog k){v:Value}{l:Lit}(h:keyOf prog k v=H l){D:DataW Value}(hD:IsMap D)(d:DataW Value):Maps.has (D.put l d) l=J/\∀z,(D.put l d).atKey l z=d:=⟨has_put_same hD (K.key h) d,fun z=>atKey_put_same hD (K.key h) d z⟩
theorem jAI {w:World}{F:Nat->Prop}{c r:Int}{ct:Ct}{sl:Value}(hc:I64 c)(hr:I64 r)(hin:NdIn w F sl ct.t):
 j0N w F ((DataW.map []:DataW Value).put (kl c r) (.held (ct.val sl))) [((c,r),ct)]:=by
 have hk:=X0 hc hr;have hput:=j5l Q2 hk (D:=(.map []:DataW Value)) ⟨_,rfl⟩ (.held (ct.val sl));have hne:∀x y,I64 x->I64 y->(x,y)≠(c,r)->kl x y≠kl c r:=fun x y hx hy h e=>h (by
  have:=j1x hx hy hc hr e;exact Prod.ext this.1 this.2)
 refine⟨?_,fun x hx=>?_,fun x y hx hy=>?_,fun x y ct' h=>?_,List.pairwise_singleton _ _⟩
 ·generalize kl c r=K at *;have hT:Tidy (DataW.map []:DataW Value):=by simp[Tidy]
  rw[size_put hT]
  rfl
 ·rw[List.mem_singleton] at hx;subst hx;exact⟨hc,hr⟩
 ·by_cases e:(x,y)=(c,r)
  ·cases e
   exact⟨fun _=>⟨ct,List.mem_singleton.2 rfl⟩,fun _=>hput.1⟩
  ·rw[has_put_other (hne x y hx hy e)];constructor
   ·intro h;cases h
   ·rintro⟨ct',h⟩;rw[List.mem_singleton] at h;cases h
    exact absurd rfl e
 ·rw[List.mem_singleton] at h;cases h
  exact⟨sl,hput.2 _,hin⟩
def putL (L:List Cc) (k:Int×Int) (ct:Ct):List Cc:=(k,ct)::L.filter (fun x=>decide (x.1≠k))
theorem j1q {L:List Cc}{k:Int×Int}(h:∀ct,(k,ct)∉L):L.filter (fun x=>decide (x.1≠k))=L:=by
 rw[List.filter_eq_self];intro x hx;simp only[ne_eq,decide_not,Bool.not_eq_true',decide_eq_false_iff_not];intro e;exact h x.2 (by rw[<- e];exact hx)
theorem j1E {k:Int×Int}{ct:Ct}:∀ {L:List Cc},L.Pairwise (fun x y=>x.1≠y.1)->(k,ct)∈L->(L.filter (fun x=>decide (x.1≠k))).length+1=L.length
 | [],_,h=>by cases h
 | x::L,hp,h=>by
  have hp':=List.pairwise_cons.1 hp;rcases List.mem_cons.1 h with e|e
  ·have hn:∀c',(k,c')∉L:=(fun c' hc'=>(hp'.1 _ hc') (by rw[<- e]));have hx:x.1=k:=(by rw[<- e]);rw[List.filter_cons_of_neg (by simp[hx]),j1q hn,List.length_cons]
  ·have hx:x.1≠k:=hp'.1 _ e;rw[List.filter_cons_of_pos (by simp[hx]),List.length_cons,List.length_cons,j1E hp'.2 e]
theorem j3d {L:List Cc}{k:Int×Int}{ct:Ct}(h:L.Pairwise (fun x y=>x.1≠y.1)):(putL L k ct).Pairwise (fun x y=>x.1≠y.1):=by
 refine List.pairwise_cons.2 ⟨fun x hx=>?_,List.Pairwise.filter _ h⟩;have:=(List.mem_filter.1 hx).2;simp only[ne_eq,decide_not,Bool.not_eq_true',decide_eq_false_iff_not] at this;exact fun e=>this e.symm
theorem R8 {L:List Cc}{k:Int×Int}{ct:Ct}(x:Cc):x∈putL L k ct↔x=(k,ct)∨(x∈L/\x.1≠k):=by
 unfold putL;rw[List.mem_cons,List.mem_filter];simp
theorem jAE {w w':World}{F:Nat->Prop}{D:DataW Value}{L:List Cc}{m n:Nat}{c r:Int}{ct:Ct}{sl:Value}(hown:w.ownsMap prog 32 rawE m n D)(hm:j0N w F D L)(hc:I64 c)(hr:I64 r)(hin:NdIn w' F sl ct.t)(hold:∀sl t,NdIn w F sl t->NdIn w' F sl t):
 j0N w' F (D.put (kl c r) (.held (ct.val sl))) (putL L (c,r) ct):=by
 have hkey:=X0 hc hr;have hput:=j5l Q2 hkey hown.isMap (.held (ct.val sl));have hT:=hown.tidy Q2;have hne:∀x y,I64 x->I64 y->(x,y)≠(c,r)->kl x y≠kl c r:=fun x y hx hy h e=>h (by
  have:=j1x hx hy hc hr e;exact Prod.ext this.1 this.2)
 refine⟨?_,fun x hx=>?_,fun x y hx hy=>?_,fun x y ct' h=>?_,j3d hm.once⟩
 ·rw[size_put hT,hm.size];unfold putL;rw[List.length_cons];by_cases hh:Maps.has D (kl c r)=J
  ·obtain⟨ct',hmem⟩:=(hm.keys c r hc hr).1 hh;rw[if_pos hh,j1E hm.once hmem]
  ·rw[if_neg hh,j1q (fun ct' hmem=>hh ((hm.keys c r hc hr).2 ⟨ct',hmem⟩))]
 ·rcases(R8 x).1 hx with rfl|⟨h,_⟩
  ·exact⟨hc,hr⟩
  ·exact hm.rng x h
 ·by_cases e:(x,y)=(c,r)
  ·cases e
   exact⟨fun _=>⟨ct,(R8 _).2 (.inl rfl)⟩,fun _=>hput.1⟩
  ·rw[has_put_other (hne x y hx hy e),hm.keys x y hx hy];constructor
   ·rintro⟨ct',h⟩;exact⟨ct',(R8 _).2 (.inr ⟨h,e⟩)⟩
   ·rintro⟨ct',h⟩;rcases(R8 _).1 h with h|h
    ·cases h;exact absurd rfl e
    ·exact⟨ct',h.1⟩
 ·rcases(R8 _).1 h with h|⟨h,e⟩
  ·cases h
   exact⟨sl,hput.2 _,hin⟩
  ·have hxy:=hm.rng _ h;obtain⟨sl',e1,e2⟩:=hm.vals x y ct' h;exact⟨sl',by rw[atKey_put_other (hne x y hxy.1 hxy.2 e)];exact e1,hold _ _ e2⟩
theorem Y5 {o:Oper}{a:Act}{x:Operand}{g:Nat}{w:World}(cs:Array Value)(ho:o.op=.load 50 x)(hx:a.eval x=an (H ⟨g,0,G⟩))(hg:w.heap[g]? = H (.cells cs 50 (0,0)))(hcs:cs.size=21):
 (execOp a.eval o).run prog w=.ok (.value (T cs)) w:=by
 have hl:=run_loadVar_row (P:=prog) w g 50 50 cs (0,0) _ hg underlying50 rfl (by rw[hcs];exact D9);unfold execOp;simp only[ho,hx,Instr.loadAt,Instr.sureAddr,Sem.run_bind,Sem.run_pure,Result.andThen_ok,hl]
theorem jAb (g:Nat)(c r:Int)(hc:I64 c)(hr:I64 r)(ct:Ct)(sl:Value)(F:Nat->Prop)(w:World)(hb:Blk w g [.map G] 96)(hF:F g)(hFn:∀i,w.heap.size<=i->F i)(hin:NdIn w (fun b=>F b/\b≠g/\b<w.heap.size) sl ct.t):
 Calls prog 46 #[an (H ⟨g,0,G⟩),T #[O I c,O I r],ct.val sl] w fun e w'=>e=Q (au #[])/\j6 w' F g [((c,r),ct)]/\Kp w w' (fun i=>i=g):=by
 have hkey:=X0 hc hr;obtain⟨W1,hW1⟩:∃W1,(w.alloc (.cells #[O I c,O I r] 32)).alloc (.cells (ct.cells sl).toArray 50)=W1:=⟨_,rfl⟩;have k1:Kp w W1 Nul:=by rw[<- hW1];exact((Kp.refl w Nul).alloc _).alloc _
 have s1:W1.heap.size=w.heap.size+1+1:=by rw[<- hW1];simp
 have hglt:g<w.heap.size:=hb.lt;have hA1:Blk W1 w.heap.size [O I c,O I r] 32:=by rw[<- hW1];exact(Blk.new w [O I c,O I r] _).alloc _
 have hC1:Blk W1 (w.heap.size+1) (ct.cells sl) 50:=by
  have:=Blk.new (w.alloc (.cells #[O I c,O I r] 32)) (ct.cells sl) 50;rw[World.size_alloc] at this;rw[<- hW1];exact this
 have hb1:=hb.kp k1 (fun x=>x);obtain⟨W2,hW2⟩:∃W2,W1.alloc (.map #[] 0)=W2:=⟨_,rfl⟩;obtain⟨W3,hW3⟩:∃W3,W2.setCell ⟨g,0,G⟩ (.map (H W1.heap.size))=W3:=⟨_,rfl⟩;have k2:Kp W1 W2 Nul:=by rw[<- hW2];exact(Kp.refl W1 Nul).alloc _
 have hlne:W1.heap.size≠g:=by omega
 have hown2:W2.ownsMap prog 32 rawE W1.heap.size 0 (.map []):=by rw[<- hW2];exact World.ownsMap_made W1 _ _ _
 have hown3:W3.ownsMap prog 32 rawE W1.heap.size 0 (.map []):=by rw[<- hW3];exact hown2.setCell hlne _
 have k3:Kp W2 W3 (fun i=>i=g):=by rw[<- hW3];exact(Kp.refl W2 _).setCell ⟨g,0,G⟩ _ (.inr rfl)
 have hb2:=hb1.kp k2 (fun x=>x);have hb3:Blk W3 g [.map (H W1.heap.size)] 96:=by rw[<- hW3];exact hb2.set 0 _
 have hA3:=(hA1.kp k2 (fun x=>x)).kp k3 (by show ¬w.heap.size=g;omega);have hC3:=(hC1.kp k2 (fun x=>x)).kp k3 (by show ¬w.heap.size+1=g;omega);obtain⟨W4,hrun,hown4,hturn⟩:=hown3.drew.store Q2 underlying94 (by decide) hkey (val:=ct.val sl) (d:=.held (ct.val sl)) (ps:=[]) rfl;have k4:Kp W3 W4 (fun i=>i=W1.heap.size):=((Kp.refl W3 _).drew).trans (Kp.of_turned hturn);have k03:Kp w W3 (fun i=>i=g):=(k1.trans k2).of_nul.trans' k3 (fun i _ e=>e);have k04:Kp w W4 (fun i=>i=g):=k03.trans' k4 (fun i hi e=>absurd e (by omega));have hin4:NdIn W4 F sl ct.t:=hin.mono (fun b hB _=>⟨k04.block b hB.2.2 hB.2.1,hB.1⟩);have hHas:=jAI (F:=F) hc hr hin4;have HEND:Hid (j6 W4 F g [((c,r),ct)]/\Kp w W4 (fun i=>i=g)):=⟨⟨hF,.inr ⟨W1.heap.size,_,hb3.kp k4 (by show ¬g=W1.heap.size;omega),hFn _ (by omega),hlne,j6B hown4 (by decide),hHas⟩⟩,k04⟩;have HW1:Hid ((w.alloc (.cells #[O I c,O I r] 32)).alloc (.cells (ct.cells sl).toArray 50)=W1):=hW1
 have HW2:Hid (W1.alloc (.map #[] 0)=W2):=hW2;have HW3:Hid (W2.setCell ⟨g,0,G⟩ (.map (H W1.heap.size))=W3):=hW3;have c1:W1.cell? ⟨g,0,G⟩=H (.map G):=hb1.cell rfl;have c2:W2.cell? ⟨g,0,G⟩=H (.map G):=hb2.cell rfl;have f2:W2.frozen? ⟨g,0,G⟩=R:=hb2.froz _;have c3:W3.cell? ⟨g,0,G⟩=H (.map (H W1.heap.size)):=hb3.cell rfl;have c4:W3.cell? ⟨w.heap.size,0,G⟩=H (O I c):=hA3.cell rfl;have c5:W3.cell? ⟨w.heap.size,1,G⟩=H (O I r):=hA3.cell rfl;have hmm:(Instr.makeMap 94 G).run prog W1=.ok (.map (H W1.heap.size)) W2:=by rw[<- hW2];rfl
 have HS3:Hid (W3.cell? ⟨g,0,G⟩=H (.map (H (w.heap.size+1+1)))/\W3.cell? ⟨w.heap.size,0,G⟩=H (O I c)/\W3.cell? ⟨w.heap.size,1,G⟩=H (O I r)/\Blk W3 (w.heap.size+1) (ct.cells sl) 50):=⟨by rw[<- s1];exact c3,c4,c5,hC3⟩;have HS4:Hid (W4.cell? ⟨g,0,G⟩=H (.map (H (w.heap.size+1+1)))/\W4.cell? ⟨w.heap.size,0,G⟩=H (O I c)/\W4.cell? ⟨w.heap.size,1,G⟩=H (O I r)/\Blk W4 (w.heap.size+1) (ct.cells sl) 50):=⟨by rw[<- s1];exact(hb3.kp k4 (by show ¬g=W1.heap.size;omega)).cell rfl,(hA3.kp k4 (by show ¬w.heap.size=W1.heap.size;omega)).cell rfl,(hA3.kp k4 (by show ¬w.heap.size=W1.heap.size;omega)).cell rfl,hC3.kp k4 (by show ¬w.heap.size+1=W1.heap.size;omega)⟩;rw[s1] at HW3 c3 hmm hrun;have hnil:=j51 G;clear hb hin hF hFn hW2 hW3 k1 k2 k3 k4 k03 k04 hA1 hC1 hA3 hC3 hb1 hb2 hb3 hown2 hown3 hown4 hturn hHas hin4 hkey s1 hlne hglt
 go_enter func46,ntmps46;go_wp2_with fail;rw[HW3.o];clear HW1 HW2 HW3 hW1;refine wp_region_noPanic ?_;refine I0 (fun w':World=>w'.cell? ⟨g,0,G⟩=H (.map (H (w.heap.size+1+1)))/\w'.cell? ⟨w.heap.size,0,G⟩=H (O I c)/\w'.cell? ⟨w.heap.size,1,G⟩=H (O I r)/\Blk w' (w.heap.size+1) (ct.cells sl) 50) (by kernel_rfl) (HS3.o) (fun hHeld=>?_);have tok0:True:=trivial;have tok1:True:=trivial;have tok2:True:=trivial;have tok3:True:=trivial;have tok4:True:=trivial
 iterate 5 ((first|(clear tok0;refine G7 (i:=0) (v:=?_) (H 15) rfl rfl (by kernel_rfl) (fun _ _ _ h=>h) (Or.inl ⟨by rfl,?_⟩) hHeld ?_)|(clear tok1;refine G7 (i:=1) (v:=?_) (H 16) rfl rfl (by kernel_rfl) (fun _ _ _ h=>h) (Or.inl ⟨by rfl,?_⟩) hHeld ?_)|(clear tok2;refine G7 (i:=2) (v:=?_) (H 17) rfl rfl (by kernel_rfl) (fun _ _ _ h=>h) (Or.inl ⟨by rfl,?_⟩) hHeld ?_)|(clear tok3;refine G7 (i:=3) (v:=?_) (H 18) rfl rfl (by kernel_rfl) (fun _ _ _ h=>h) (Or.inl ⟨by rfl,?_⟩) hHeld ?_)|(clear tok4;refine G7 (i:=4) (v:=?_) (H 19) rfl rfl (by kernel_rfl) (fun _ _ _ h=>h) (Or.inl ⟨by rfl,?_⟩) hHeld ?_));rotate_left;(· intro w hSw;obtain⟨s0,s1,s2,s3⟩:=hSw;clear s3;go_simp;try with_reducible rfl);simp only[Act.put,Sz0,Sz1,Sz2])
 refine tk 5 20 hHeld ?_ (v:=ct.val sl) (hy:=by exact fun w' hSw=>Y5 _ rfl rfl hSw.2.2.2 rfl);generalize ct.val sl=V at *;refine D6 (i:=6) (by kernel_rfl) rfl rfl (fun K hK=>?_);go_simp;refine hK.o _ _ HS4.o (fun _=>?_);clear hK K hHeld;refine wpAnyH_done (by kernel_rfl) ?_ _;refine NoPanic.normal ?_;go_wp2_with fail
 go_end0
 exact⟨rfl,HEND.o⟩
theorem jCG {w:World}{m n:Nat}{D:DataW Value}(h:w.ownsMap prog 32 rawE m n D):w.ownsMap prog 32 rawE m (Maps.size D) D:=by
 obtain⟨es,clock,h1,h2,h3,rfl⟩:=h;refine⟨es,clock,h1,h2,?_,rfl⟩;show es.size<=List.length _;rw[length_read];exact Nat.le_refl _
theorem jAc (g m:Nat)(c r:Int)(hc:I64 c)(hr:I64 r)(ct:Ct)(sl:Value)(F:Nat->Prop)(D:DataW Value)(L:List Cc)(w:World)(hb:Blk w g [.map (H m)] 96)(hF:F g)(hFm:F m)(hne:m≠g)(hown:w.ownsMap prog 32 rawE m 4096 D)(hm:j0N w F D L)(hroom:(putL L (c,r) ct).length<=4096)(hin:NdIn w F sl ct.t)(hold:∀w',Kp w w' (fun i=>i=m)->∀sl t,NdIn w F sl t->NdIn w' F sl t):
 Calls prog 46 #[an (H ⟨g,0,G⟩),T #[O I c,O I r],ct.val sl] w fun e w'=>e=Q (au #[])/\j6 w' F g (putL L (c,r) ct)/\Kp w w' (fun i=>i=m):=by
 have hkey:=X0 hc hr;obtain⟨W1,hW1⟩:=e_ ((w.alloc (.cells #[O I c,O I r] 32)).alloc (.cells (ct.cells sl).toArray 50));have k1:Kp w W1 Nul:=by rw[<- hW1];exact((Kp.refl w Nul).alloc _).alloc _
 have hmlt:=hown.lt;have hA1:Blk W1 w.heap.size [O I c,O I r] 32:=by rw[<- hW1];exact(Blk.new w [O I c,O I r] _).alloc _
 have hC1:Blk W1 (w.heap.size+1) (ct.cells sl) 50:=by
  have:=Blk.new (w.alloc (.cells #[O I c,O I r] 32)) (ct.cells sl) 50;rw[World.size_alloc] at this;rw[<- hW1];exact this
 have hb1:=hb.kp k1 (fun x=>x);have hown1:=j0T hown (k1.block m hmlt (fun x=>x));obtain⟨W4,hrun,hown4,hturn⟩:=hown1.drew.store Q2 underlying94 (by decide) hkey (val:=ct.val sl) (d:=.held (ct.val sl)) (ps:=[]) rfl;have k4:Kp W1 W4 (fun i=>i=m):=((Kp.refl W1 _).drew).trans (Kp.of_turned hturn);have k04:=k1.of_nul.trans k4;have hHas:=jAE hown hm hc hr (hold W4 k04 sl ct.t hin) (hold W4 k04);have HEND:Hid (j6 W4 F g (putL L (c,r) ct)/\Kp w W4 (fun i=>i=m)):=⟨⟨hF,.inr ⟨m,_,hb1.kp k4 (fun e=>hne e.symm),hFm,hne,j6B (jCG hown4) (by rw[hHas.size];exact hroom),hHas⟩⟩,k04⟩;have HW1:=h_ hW1;have c1:=hb1.c_ 0 rfl;have HS3:Hid (W1.cell? ⟨g,0,G⟩=H (.map (H m))/\W1.cell? ⟨w.heap.size,0,G⟩=H (O I c)/\W1.cell? ⟨w.heap.size,1,G⟩=H (O I r)/\Blk W1 (w.heap.size+1) (ct.cells sl) 50):=⟨c1,hA1.cell rfl,hA1.cell rfl,hC1⟩
 have HS4:Hid (W4.cell? ⟨g,0,G⟩=H (.map (H m))/\W4.cell? ⟨w.heap.size,0,G⟩=H (O I c)/\W4.cell? ⟨w.heap.size,1,G⟩=H (O I r)/\Blk W4 (w.heap.size+1) (ct.cells sl) 50):=⟨(hb1.kp k4 (fun e=>hne e.symm)).cell rfl,(hA1.kp k4 (by show ¬w.heap.size=m;omega)).cell rfl,(hA1.kp k4 (by show ¬w.heap.size=m;omega)).cell rfl,hC1.kp k4 (by show ¬w.heap.size+1=m;omega)⟩;have cL:((w.alloc (.cells #[O I c,O I r] 32)).alloc (.cells #[O I ct.k,O I ct.v.k,ap ao ct.v.x,aq ct.v.s,E ct.v.b,O I ct.v.f,O I ct.t.hd.k,O I ct.t.hd.o,ap ao ct.t.hd.x,aq ct.t.hd.s,E ct.t.hd.b,O I ct.t.hd.f,O I ct.t.hd.c1,O I ct.t.hd.r1,E ct.t.hd.p1,E ct.t.hd.q1,O I ct.t.hd.c2,O I ct.t.hd.r2,E ct.t.hd.p2,E ct.t.hd.q2,sl] 50)).cell? ⟨g,0,G⟩=H (.map (H m)):=by rw[HW1.o];exact c1
 have hnil:=j51 (H m);clear hb hin hF hFm hW1 k1 k4 k04 hA1 hC1 hb1 hown hown1 hown4 hturn hHas hkey hne hm hroom hold hmlt c1;go_enter func46,ntmps46;go_wp2_with fail;rw[HW1.o];clear HW1;refine wp_region_noPanic ?_;refine I0 (fun w':World=>w'.cell? ⟨g,0,G⟩=H (.map (H m))/\w'.cell? ⟨w.heap.size,0,G⟩=H (O I c)/\w'.cell? ⟨w.heap.size,1,G⟩=H (O I r)/\Blk w' (w.heap.size+1) (ct.cells sl) 50) (by kernel_rfl) (HS3.o) (fun hHeld=>?_);have tok0:True:=trivial;have tok1:True:=trivial;have tok2:True:=trivial;have tok3:True:=trivial;have tok4:True:=trivial
 iterate 5 ((first|(clear tok0;refine G7 (i:=0) (v:=?_) (H 15) rfl rfl (by kernel_rfl) (fun _ _ _ h=>h) (Or.inl ⟨by rfl,?_⟩) hHeld ?_)|(clear tok1;refine G7 (i:=1) (v:=?_) (H 16) rfl rfl (by kernel_rfl) (fun _ _ _ h=>h) (Or.inl ⟨by rfl,?_⟩) hHeld ?_)|(clear tok2;refine G7 (i:=2) (v:=?_) (H 17) rfl rfl (by kernel_rfl) (fun _ _ _ h=>h) (Or.inl ⟨by rfl,?_⟩) hHeld ?_)|(clear tok3;refine G7 (i:=3) (v:=?_) (H 18) rfl rfl (by kernel_rfl) (fun _ _ _ h=>h) (Or.inl ⟨by rfl,?_⟩) hHeld ?_)|(clear tok4;refine G7 (i:=4) (v:=?_) (H 19) rfl rfl (by kernel_rfl) (fun _ _ _ h=>h) (Or.inl ⟨by rfl,?_⟩) hHeld ?_));rotate_left;(· intro w hSw;obtain⟨s0,s1,s2,s3⟩:=hSw;clear s3;go_simp;try with_reducible rfl);simp only[Act.put,Sz0,Sz1,Sz2])
 refine tk 5 20 hHeld ?_ (v:=ct.val sl) (hy:=by exact fun w' hSw=>Y5 _ rfl rfl hSw.2.2.2 rfl);generalize ct.val sl=V at *;refine D6 (i:=6) (by kernel_rfl) rfl rfl (fun K hK=>?_);go_simp;refine hK.o _ _ HS4.o (fun _=>?_);clear hK K hHeld;refine wpAnyH_done (by kernel_rfl) ?_ _;refine NoPanic.normal ?_;go_wp2_with fail
 go_end0
 exact⟨rfl,HEND.o⟩
theorem jD8 {fn:Func}{p:Tmp}{ty:TypeId}(h:fn.results=#[.cell p ty])(tmps:Array Value)(P:Program)(w:World):
 (results fn tmps).run P w=((asAddr (tmps.getD p undef)).run P w).andThen fun a w1=>(loadVar ty a).run P w1:=by
 simp only[results,h];simp[Sem.run_bind,Result.andThen];try rfl
theorem j1O {ops:Array Oper}{rest:List Oper}{o:Oper}{a:Act}{w:World}{am:Exit->Act->World->Prop}(hgd:Region.wanted o (yielded ops a.tmps)=J)(x:Operand)(ho:o.op=.load 50 x)(g:Nat)(hx:a.eval x=an (H ⟨g,0,G⟩))(cs:Array Value)(hg:w.heap[g]? = H (.cells cs 50 (0,0)))(hcs:cs.size=21)
 (h:wpList prog ops am rest (a.put o.dst (T cs)) w):wpList prog ops am (o::rest) a w:=
 wpList_step fun K hK=>by
  simp only[hgd,if_true];exact wp_load_row 50 x ho g hx 50 cs (0,0) _ hg underlying50 rfl (by rw[hcs];exact D9) (hK _ _ h)
theorem j2I (g:Nat)(c r:Int)(ct:Ct)(sl:Value)(V:Bool)(w:World)(hV:V=J->vC c r=R)
 (hval:∀wq,Kp w wq Nul->Calls prog 43 #[ct.val sl] wq fun e w'=>e=Q (E V)/\Kp wq w' Nul) :
 Calls prog 11 #[an (H ⟨g,0,G⟩),T #[O I c,O I r],ct.val sl] w fun e w'=>e=Q (O I (if V then 20 else 1))/\Kp w w' Nul:=by
 obtain⟨W1,hW1⟩:=e_ ((w.alloc (.cells #[O I c,O I r] 32)).alloc (.cells (ct.cells sl).toArray 50));have k1:Kp w W1 Nul:=by rw[<- hW1];exact((Kp.refl w Nul).alloc _).alloc _
 have hA1:Blk W1 w.heap.size [O I c,O I r] 32:=by rw[<- hW1];exact(Blk.new w [O I c,O I r] _).alloc _
 have hC1:Blk W1 (w.heap.size+1) (ct.cells sl) 50:=by
  have:=Blk.new (w.alloc (.cells #[O I c,O I r] 32)) (ct.cells sl) 50;rw[World.size_alloc] at this;rw[<- hW1];exact this
 have HC1:Hid (((w.alloc (.cells #[O I c,O I r] 32)).alloc (.cells (ct.cells sl).toArray 50)).heap[w.heap.size+1]? = H (.cells (ct.cells sl).toArray 50 (0,0))):=by show _=_;rw[hW1];exact hC1
 have HW1:=h_ hW1;have HS:Hid (∀wq,Kp W1 wq Nul->(wq.cell? ⟨w.heap.size,0,G⟩=H (O I c)/\wq.cell? ⟨w.heap.size,1,G⟩=H (O I r))):=fun wq k=>⟨(hA1.kp k (fun x=>x)).cell rfl,(hA1.kp k (fun x=>x)).cell rfl⟩
 have HV:=h_ (hval W1 k1);have HA:Hid (V=J->∀w,Calls prog 44 #[T #[O I c,O I r]] w fun e w'=>e=Q (E R)/\Kp w w' Nul):=fun h w=>(U5 c r w).mono fun e w' ⟨h1,h2⟩=>⟨by rw[h1,hV h],by rw[h2];exact(Kp.refl w Nul).alloc _⟩
 have HK1:=h_ k1;clear hval hW1 k1 hA1 hC1 hV;go_enter func11,ntmps11;go_wp2_with (first|(refine j1O rfl (.tmp 5) rfl (w.heap.size+1) rfl _ HC1.o rfl ?_)|fail);rw[HW1.o];refine HV.o.mono ?_;rintro e w2 ⟨rfl,hk2⟩;obtain⟨a1,a2⟩:=HS.o w2 hk2;have HK2:=h_ (HK1.o.trans hk2);clear hk2 HV HC1 HW1 HS;cases V with
 | false=>
  go_wp2_with fail;go_ret;exact⟨rfl,HK2.o⟩
 | true=>
  go_wp2_with fail;refine(HA.o trivial _).mono ?_;rintro e w3 ⟨rfl,hk3⟩;have HK3:=h_ (HK2.o.trans hk3);clear hk3;go_wp2_with fail;go_ret;exact⟨rfl,HK3.o⟩
theorem j45 {key:Value}{l:Lit}(h:keyOf prog 32 key=H l):∃x y,key=T #[O I x,O I y]/\I64 x/\I64 y:=by
 unfold keyOf at h;rw[underlying32] at h;simp only at h;split at h
 ·rename_i hf
  rw[Bool.and_eq_true] at hf;obtain⟨n,hn⟩:∃n,prog.types.size=n+1:=by
   have h:=j3l;generalize prog.types.size=s at h;cases s with
   | zero=>exact absurd h (Nat.not_lt_zero _)
   | succ n=>exact⟨n,rfl⟩
  rw[hn] at h;have hfm:=hf.2;cases key <;> simp only[Value.formed,underlying32,j1g,Bool.false_eq_true,beq_iff_eq] at hfm
  rename_i cs
  obtain⟨c0,c1,rfl⟩:∃c0 c1,cs=#[c0,c1]:=by
   obtain⟨l⟩:=cs
   match l,hfm with
   | [c0,c1],_=>exact⟨c0,c1,rfl⟩
  simp[Program.keyLits,underlying32,underlying3,Value.cells,j4X,j1g] at h;have wf:∀z:Int,(Lit.int .i64 z).wf=J->I64 z:=fun z hz=>by
   have hm:IntKind.i64.min=-9223372036854775808:=rfl;simp[Lit.wf,hm] at hz;unfold I64;omega
  cases c0 with
  | int q0 x=>
   by_cases h0:q0=.i64/\(Lit.int .i64 x).wf=J
   ·simp only[h0,and_self,if_true,Option.bind_some,Function.comp] at h;cases c1 with
    | int q1 y=>
     by_cases h1:q1=.i64/\(Lit.int .i64 y).wf=J
     ·obtain⟨rfl,h0⟩:=h0;obtain⟨rfl,h1⟩:=h1;exact⟨x,y,rfl,wf x h0,wf y h1⟩
     ·simp[h1] at h
    | _=>simp at h
   ·simp[h0] at h
  | _=>simp at h
 ·cases h
theorem jAg {x y:Int}{l:Lit}(h:keyOf prog 32 (T #[O I x,O I y])=H l):I64 x/\I64 y/\l=kl x y:=by
 obtain⟨x',y',e,hx,hy⟩:=j45 h;have e2:x=x'/\y=y':=by simpa using e
 obtain⟨rfl,rfl⟩:=e2;refine⟨hx,hy,?_⟩;have:=X0 hx hy;rw[h] at this;exact Option.some.inj this
theorem jF0 (w:World){ops:Array Oper}{rest:List Oper}{o:Oper}{a:Act}{am:Exit->Act->World->Prop}(hg:o.guard=G)(it:Operand)(hop:o.op=Op.next it R)
 (b r n:Nat) (D:DataW Value) (left:Lit->Bool) (cnt:Nat) (hit:a.eval it=an (H ⟨r,0,G⟩)) (h:w.ranges prog 32 rawE b r n D left cnt)
 (hDone:cnt=0->(∀kl,left kl=R)->wpList prog ops am rest (a.put o.dst (au #[E R])) w)
 (hMore:∀(x:Int×Int) (c:Value) (w':World) (cnt':Nat),(I64 x.1/\I64 x.2)->left (kl x.1 x.2)=J->(∀zd,D.atKey (kl x.1 x.2) zd=.held c)->w'.ranges prog 32 rawE b r n D (fun z=>left z && !z.sameKey (kl x.1 x.2)) cnt'->cnt'<cnt ->
  w.grownBy w' (H r)->w'.heap.size=w.heap.size->(Instr.entry (an (H ⟨r,0,G⟩))).run prog w'=.ok (au #[T #[O I x.1,O I x.2],c]) w'->wpList prog ops am rest (a.put o.dst (au #[E J,T #[O I x.1,O I x.2],c])) w') :
 wpList prog ops am (o::rest) a w:=
 wpList_next_ranges w hg it hop 32 Q2 rawE (fun x:Int×Int=>T #[O I x.1,O I x.2]) (fun c:Value=>c) (fun key kl hkey=>by obtain⟨x,y,rfl,_⟩:=j45 hkey;exact⟨(x,y),rfl⟩) (fun v y hv=>⟨v,rfl⟩)
  b r n D left cnt hit h hDone (fun x c kl' y w' cnt' hkey hlk hv hat hrg hlt hgr hsz hen=>by
   obtain⟨hx,hy,he⟩:=jAg (x:=x.1) (y:=x.2) (l:=kl') hkey;subst he;have hy2:y.1=.held c:=(congrArg Prod.fst (Option.some.inj hv)).symm;rw[hy2] at hat;exact hMore x c w' cnt' ⟨hx,hy⟩ hlk hat hrg hlt hgr hsz hen)
def ct7:Ct:=⟨1,⟨1,4619567317775286272,⟨#[]⟩,R,0⟩,zNd⟩
theorem j42:zNd.size=1:=by unfold zNd;rw[Nd.size,D3]
theorem j2z:cpy zNd=zNd:=by
 unfold zNd;rw[cpy,cpyL]
 rfl
theorem j7d:I4 zNd=J:=by
 unfold I4 zNd;simp[G8,j9];try decide
theorem cp7:cpC ct7=ct7:=by
 unfold cpC ct7;simp only[j2z]
 congr 1
theorem j6.kp {w w':World}{F:Nat->Prop}{g:Nat}{L:List Cc}(h:j6 w F g L)(k:Kp w w' Nul):j6 w' F g L:=by
 obtain⟨h0,h⟩:=h;refine⟨h0,?_⟩;rcases h with ⟨hb,he⟩|⟨m,D,hb,hFm,hne,hown,hm⟩
 ·exact .inl ⟨(k.block g (Array.getElem?_eq_some_iff.1 hb).1 (fun x=>x)).trans hb,he⟩
 ·exact .inr ⟨m,D,(k.block g (Array.getElem?_eq_some_iff.1 hb).1 (fun x=>x)).trans hb,hFm,hne,j0T hown (k.block m hown.lt (fun x=>x)),⟨hm.size,hm.rng,hm.keys,fun c' r' ct' h'=>by obtain⟨sl,e1,e2⟩:=hm.vals c' r' ct' h';exact⟨sl,e1,e2.kpn k⟩,hm.once⟩⟩
theorem jDt:FloatKind.f64.format.order 4619567317775286272 4619567317775286272=H .eq:=by decide +kernel
end
section
open Go.RowKit Go.Shelf
attribute [local go_sem] Oper.semAt_some
theorem X6 {w W:World}{l:Nat}{o:Obj}(h:Kp w W Nul)(hl:w.heap.size<=l):Kp w (W.putObj l o) Nul:=
 ⟨h.os,h.tape,h.output,by have:=h.size;simpa [World.putObj] using this,fun i hi hs=>(World.putObj_heap_other (by omega)).trans (h.block i hi hs)⟩
section
variable {n:Nat} {P:Program} {g:Operand} {ps:Array Tmp} {assign body:Code} {am:Exit->Act->World->Prop} {a:Act} {w:World}
def lrec (fn:FuncId) (a:Act) (ps:Array Tmp) (assign body:Code) (d:Nat) (st:LoopState) (pe:Option Code):Loop:={ state:=st,pending:=pe,fn,tmps:=a.tmps,params:=ps,assign,body,defers:=d }
end
end
section
open Go.RowKit Go.Shelf Go.Maps
attribute [local go_sem] Oper.semAt_some
theorem j20 {F:Fence}{n:Nat}{ops:Array Oper}{rest:List Oper}{o:Oper}{a:Act}{w:World}{am:Exit->Act->World->Prop}(hgd:Region.wanted o (yielded ops a.tmps)=J)(x:Operand)(ho:o.op=.load 50 x)(g:Nat)(hx:a.eval x=an (H ⟨g,0,G⟩))(cs:Array Value)(hg:w.heap[g]? = H (.cells cs 50 (0,0)))(hcs:cs.size=21)
 (h:wpListIn F n prog ops am rest (a.put o.dst (T cs)) w):wpListIn F n prog ops am (o::rest) a w:=by
 refine wpListIn_step fun K hK=>?_
 simp only[hgd,if_true];unfold Oper.wpIn;refine⟨by simp[Oper.about,ho],?_⟩;rw[Oper.semAt_plain F _ _ (by rw[ho];intro c hc';cases hc')];rw[Y5 cs ho hx hg hcs];exact hK _ _ h
end
section
open Go.RowKit Go.Shelf
attribute [local go_sem] Oper.semAt_some
theorem j40 {F:Fence}{n:Nat}{ops:Array Oper}{rest:List Oper}{o:Oper}{a:Act}{w w':World}{v:Value}{am:Exit->Act->World->Prop}(hgd:Region.wanted o (yielded ops a.tmps)=J)(hab:o.about prog w a.eval=G)(hpl:∀c,o.op ≠ .defer c)(he:(execOp a.eval o).run prog w=.ok (.value v) w')
 (h:wpListIn F n prog ops am rest (a.put o.dst v) w'):wpListIn F n prog ops am (o::rest) a w:=by
 refine wpListIn_step fun K hK=>?_
 simp only[hgd,if_true];unfold Oper.wpIn;refine⟨by simp[hab],?_⟩;rw[Oper.semAt_plain F _ _ (fun c hc'=>hpl c hc'),he];exact hK _ _ h
theorem j2h {F:Fence}{n:Nat}{ops:Array Oper}{rest:List Oper}{o:Oper}{a:Act}{w w':World}{am:Exit->Act->World->Prop}(hgd:Region.wanted o (yielded ops a.tmps)=J)(hab:o.about prog w a.eval=G)(hpl:∀c,o.op ≠ .defer c)(he:(execOp a.eval o).run prog w=.ok .skip w')
 (h:wpListIn F n prog ops am rest (a.put o.dst undef) w'):wpListIn F n prog ops am (o::rest) a w:=by
 refine wpListIn_step fun K hK=>?_
 simp only[hgd,if_true];unfold Oper.wpIn;refine⟨by simp[hab],?_⟩;rw[Oper.semAt_plain F _ _ (fun c hc'=>hpl c hc'),he];exact hK _ _ h
theorem j3O {F:Fence}{n:Nat}{ops:Array Oper}{rest:List Oper}{o:Oper}{a:Act}{w:World}{am:Exit->Act->World->Prop}(hgd:Region.wanted o (yielded ops a.tmps)=J)(x:Operand)(ho:o.op=.load 48 x)(b p:Nat)(hx:a.eval x=an (H ⟨b,p,G⟩))(cs:List Value)(hc:w.rangeAt b p cs)(hcs:cs.length=15)
 (h:wpListIn F n prog ops am rest (a.put o.dst (T cs.toArray)) w):wpListIn F n prog ops am (o::rest) a w:=by
 refine j40 hgd (by simp[Oper.about,ho]) (fun c hc'=>by rw[ho] at hc';cases hc') ?_ h;unfold execOp;simp only[ho,hx,Instr.loadAt,Instr.sureAddr,Sem.run_bind,Sem.run_pure,Result.andThen_ok,run_loadVar_mid w b p 48 cs _ hc underlying48 rfl (by rw[hcs];exact j3)]
theorem jE7 {F:Fence}{n:Nat}{ops:Array Oper}{rest:List Oper}{o:Oper}{a:Act}{am:Exit->Act->World->Prop}(hgd:Region.wanted o (yielded ops a.tmps)=J)(x y:Operand)(ho:o.op=.store 48 x y)(w:World)(z cells:Array Value)(N:Nat)(hN:N=w.heap.size)(hx:a.eval x=an (H ⟨N,0,G⟩))(hy:a.eval y=T cells)
 (hz:z.size=cells.size) (hi:cells.size=15) (h1:cells.all (·.oneCell')=J)
 (h:wpListIn F n prog ops am rest (a.put o.dst undef) (w.alloc (.cells cells 48))):wpListIn F n prog ops am (o::rest) a (w.alloc (.cells z 48)):=by
 subst hN;have ht:(w.alloc (.cells z 48)).there w.heap.size 0 cells.size:=by
  intro j hj;constructor
  ·rw[World.cell?_alloc_at _ _ _ _ rfl,Array.getElem?_eq_getElem (by omega)];rfl
  ·rw[frozen?_alloc_cells,j1G]
 have hs:=run_storeVar_mid (P:=prog) (w.alloc (.cells z 48)) w.heap.size 0 48 cells ht (by rw[hi];exact j3) h1;refine j2h hgd (by simp[Oper.about,ho]) (fun c hc'=>by rw[ho] at hc';cases hc') ?_ h;unfold execOp;simp only[ho,hx,hy,Instr.storeAt,Instr.sureAddr,Sem.run_bind,Sem.run_pure,Result.andThen_ok,hs];rw[j3s w 48 z cells hz]
theorem j6h {m m':Nat}{P:Program}{l:Nat}{f:FuncId}{tmps:Array Value}{assign body:Code}{w:World}{af:Ending->World->Prop}(h:RoundIn Fence.wide m P l f tmps assign body w af):RoundIn Fence.wide m' P l f tmps assign body w af:=
 ⟨h.1,fun c cs _=>h.2 c cs (room_wide _)⟩
theorem J0 {W:World}{l:Nat}{o:Obj}:Kp W (W.putObj l o) (fun i=>i=l):=
 ⟨rfl,rfl,rfl,by simp[World.putObj],fun i hi hs=>World.putObj_heap_other (fun e=>hs e)⟩
section
variable {n:Nat} {P:Program} {α:Type} {g:Operand} {ps:Array Tmp} {assign body:Code} {am:Exit->Act->World->Prop} {a:Act} {w:World}
theorem jDV {encs:α->Array Value}{fn:FuncId}{N:Nat}(hfn:Fence.wide.fn fn)(hps:∀x,(encs x).size=ps.size)(S:Nat->Prop)(hS:∀i,S i->i<w.heap.size)
 (ab:Nat->World->Prop) (Ix:World->Prop) (hI:∀k W W',ab k W->Kp W W' (fun i=>w.heap.size<=i)->ab k W') (hIx:∀W W',Ix W->Kp W W' (fun i=>w.heap.size<=i)->Ix W')
 (hround:∀(l:Nat) (k:Nat) (x:α) (W:World) (K:Act->World->Prop),w.heap.size<=l->k<N->ab k W->(∀a' W',Kp W W' Nul->(∀V,Kp W' V (fun i=>w.heap.size<=i)->body.wpIn (Fence.wide.inRound l) (n-1-1) P (fun e _ X=>(e=.normal/\Kp V X S/\ab (k+1) X)∨(e=.ret/\Kp V X S/\Ix X)) a' V)->K a' W') ->
  assign.wpIn (Fence.wide.inRound l) (n-1-1) P (Exit.then K (fun _ _ _=>False)) { tmps:=(ps.zip (encs x)).foldl (fun t (p,v)=>t.setIfInBounds p v) a.tmps,defers:=[] } W)
 (k:Nat) (x:α) (W:World) (hkN:k<N) (hi:ab k W) (hl:W.heap[w.heap.size+1]? = H (.loop (lrec fn a ps assign body w.heap.size .ready G))) (hk:W.heap[w.heap.size]? = H (.deferred (H []))) :
 YieldAt Fence.wide (n-1-1) P (w.heap.size+1) (encs x) W fun e W'=>
  (e=Q (E J)/\(ab (k+1) W'/\W'.heap[w.heap.size+1]? = H (.loop (lrec fn a ps assign body w.heap.size .ready G))/\W'.heap[w.heap.size]? = H (.deferred (H [])))/\Kp W W' (fun i=>S i∨i=w.heap.size+1)) ∨
  (e=Q (E R)/\Ix W'/\W'.heap[w.heap.size+1]? = H (.loop (lrec fn a ps assign body w.heap.size .done (H .ret)))/\W'.heap[w.heap.size]? = H (.deferred (H []))):=by
 have hy:=run_yield (P:=P) (args:=encs x) hl (hps x);refine⟨fn,_,assign,body,hy,roundIn_of_wpIn hfn (hround _ k x W _ (Nat.le_succ _) hkN hi ?_)⟩;clear hy;intro a' V hkp hbody;have hWl:=(Array.getElem?_eq_some_iff.1 hl).1;have vl:=(hkp.block _ hWl (fun x=>x)).trans hl;have vk:=(hkp.block _ (by omega) (fun x=>x)).trans hk;have hlt:=(Array.getElem?_eq_some_iff.1 vl).1;refine⟨_,run_beginRound vl rfl,?_⟩;obtain⟨bz,hbz⟩:∃bz:Loop,{ lrec fn a ps assign body w.heap.size .ready G with state:=.busy }=bz:=⟨_,rfl⟩;obtain⟨aj,hU⟩:=e_ (V.putObj (w.heap.size+1) (.loop bz));rw[hbz,hU];have ul:aj.heap[w.heap.size+1]? = H (.loop bz):=by rw[<- hU];exact World.putObj_heap_same hlt
 have uk:aj.heap[w.heap.size]? = H (.deferred (H [])):=by rw[<- hU];exact(World.putObj_heap_other (by omega)).trans vk
 have hVU:Kp V aj (fun i=>i=w.heap.size+1):=by rw[<- hU];exact J0
 refine wpIn_mono (hbody aj (hVU.mono (fun i _ e=>by show w.heap.size<=i;omega))) ?_;have leave:∀(jump:Option Code) (X:World),Kp aj X S ->
  (Instr.endRound (w.heap.size+1) jump).run P X=.ok (E jump.isNone) (X.putObj (w.heap.size+1) (.loop (lrec fn a ps assign body w.heap.size (if jump.isNone then .ready else .done) jump))) /\
  (X.putObj (w.heap.size+1) (.loop (lrec fn a ps assign body w.heap.size (if jump.isNone then .ready else .done) jump))).heap[w.heap.size+1]? = H (.loop (lrec fn a ps assign body w.heap.size (if jump.isNone then .ready else .done) jump)) /\
  (X.putObj (w.heap.size+1) (.loop (lrec fn a ps assign body w.heap.size (if jump.isNone then .ready else .done) jump))).heap[w.heap.size]? = H (.deferred (H []))/\Kp X (X.putObj (w.heap.size+1) (.loop (lrec fn a ps assign body w.heap.size (if jump.isNone then .ready else .done) jump))) (fun i=>i=w.heap.size+1):=by
  intro jump X hX;have hUl:=(Array.getElem?_eq_some_iff.1 ul).1;have xl:=(hX.block _ hUl (fun h=>by have:=hS _ h;omega)).trans ul;have xk:=(hX.block _ (by omega) (fun h=>by have:=hS _ h;omega)).trans uk;refine⟨?_,World.putObj_heap_same (Array.getElem?_eq_some_iff.1 xl).1,(World.putObj_heap_other (by omega)).trans xk,J0⟩;have:=run_endRound (P:=P) jump xl;rw[<- hbz] at this;exact this
 rintro e a3 X hp;rcases hp with ⟨rfl,q1,q2⟩|⟨rfl,q1,q2⟩
 ·obtain⟨r1,r2,r3,r4⟩:=leave G X q1;refine⟨_,_,r1,.inl ⟨rfl,⟨hI _ _ _ q2 (r4.mono (fun i _ e=>by show w.heap.size<=i;omega)),r2,r3⟩,?_⟩⟩;exact((hkp.of_nul.trans (hVU.mono (fun i _ e=>.inr e))).trans (q1.mono (fun i _ e=>.inl e))).trans (r4.mono (fun i _ e=>.inr e))
 ·obtain⟨r1,r2,r3,r4⟩:=leave (H .ret) X q1;exact⟨_,_,r1,.inr ⟨rfl,hIx _ _ q2 (r4.mono (fun i _ e=>by show w.heap.size<=i;omega)),r2,r3⟩⟩
theorem jEy (h1:1<=n){gf:Nat}{lb:Array Value}(hg:a.eval g=.func (.func gf) #[] lb)(eg:∀args w,(callFunc gf args).run P w=.ok (.enter gf args) w)
 {encs:α->Array Value} (hps:∀x,(encs x).size=ps.size) (S:Nat->Prop) (hS:∀i,S i->i<w.heap.size) {N:Nat}
 (hseq:∀(ai:Nat->World->Prop) (Jx:World->Prop) (W:World),Kp w W Nul->w.heap.size+2<=W.heap.size->(∀k W W',ai k W->Kp W W' Nul->ai k W')->(∀W W',Jx W->Kp W W' Nul->Jx W') ->
  (∀m k x W1,k<N->ai k W1->YieldAt Fence.wide m P (w.heap.size+1) (encs x) W1 fun e W'=>(e=Q (E J)/\ai (k+1) W'/\Kp W1 W' (fun i=>S i∨i=w.heap.size+1))∨(e=Q (E R)/\Jx W'))->ai 0 W ->
  Calls P gf (#[.func (.yield (w.heap.size+1)) #[] #[]]++lb) W fun e W'=>(∃v,e=Q v)/\(ai N W'∨Jx W'))
 (ab:Nat->World->Prop) (Ix:World->Prop) (hI:∀k W W',ab k W->Kp W W' (fun i=>w.heap.size<=i)->ab k W') (hIx:∀W W',Ix W->Kp W W' (fun i=>w.heap.size<=i)->Ix W') (h0:ab 0 w)
 (hround:∀(l:Nat) (k:Nat) (x:α) (W:World) (K:Act->World->Prop),w.heap.size<=l->k<N->ab k W->(∀a' W',Kp W W' Nul->(∀V,Kp W' V (fun i=>w.heap.size<=i)->body.wpIn (Fence.wide.inRound l) (n-1-1) P (fun e _ X=>(e=.normal/\Kp V X S/\ab (k+1) X)∨(e=.ret/\Kp V X S/\Ix X)) a' V)->K a' W') ->
  assign.wpIn (Fence.wide.inRound l) (n-1-1) P (Exit.then K (fun _ _ _=>False)) { tmps:=(ps.zip (encs x)).foldl (fun t (p,v)=>t.setIfInBounds p v) a.tmps,defers:=[] } W)
 (hdone:∀(D:Nat) (W:World),w.heap.size<=D->ab N W->W.heap[D]? = H (.deferred (H []))->am .normal { a with defers:={ target:=.collected D,args:=#[] }::a.defers } W)
 (hstop:∀(D:Nat) (W:World),w.heap.size<=D->Ix W->W.heap[D]? = H (.deferred (H []))->Code.ret.wpIn Fence.wide n P am { a with defers:={ target:=.collected D,args:=#[] }::a.defers } W) :
 (Code.rangeFunc g ps assign body).wpIn Fence.wide n P am a w:=by
 refine wpIn_rangeFunc fun fn hfn=>?_
 obtain⟨W1,hW1⟩:=e_ ((w.alloc (.deferred (H []))).alloc (.loop (lrec fn a ps assign body w.heap.size .ready G)));have l1:W1.heap[w.heap.size+1]? = H (.loop (lrec fn a ps assign body w.heap.size .ready G)):=by
  have:=World.alloc_heap_new (w.alloc (.deferred (H []))) (.loop (lrec fn a ps assign body w.heap.size .ready G));rw[World.size_alloc,hW1] at this;exact this
 have k1:W1.heap[w.heap.size]? = H (.deferred (H [])):=by rw[<- hW1];exact(Below.heap_alloc _ _ _ (by simp)).trans (World.alloc_heap_new w _)
 have s1:W1.heap.size=w.heap.size+2:=by rw[<- hW1];simp
 have kW:Kp w W1 Nul:=by rw[<- hW1];exact((Kp.refl w Nul).alloc _).alloc _
 refine⟨w.heap.size+1,[{ target:=.collected w.heap.size,args:=#[] }],W1,{ target:=.fn (.func gf) lb,args:=#[.func (.yield (w.heap.size+1)) #[] #[]] },W1,gf,#[.func (.yield (w.heap.size+1)) #[] #[]]++lb,W1,?_,?_,fun f' _=>trivial,?_,fun _=>h1,?_⟩
 ·rw[<- hW1];exact run_enterLoop_outer _ _ _ _ _
 ·simp only[resolve,hg];simp[go_sem]
 ·simp[invoke,go_sem,eg]
 ·have hkeep:∀ {A B:World} {o:Obj} {i:Nat},Kp A B Nul->A.heap[i]? = H o->B.heap[i]? = H o:=fun h e=>(h.block _ (Array.getElem?_eq_some_iff.1 e).1 (fun x=>x)).trans e
  refine callsIn_wide.2 ((hseq
   (fun k W=>ab k W/\W.heap[w.heap.size+1]? = H (.loop (lrec fn a ps assign body w.heap.size .ready G))/\W.heap[w.heap.size]? = H (.deferred (H [])))
   (fun W=>Ix W/\W.heap[w.heap.size+1]? = H (.loop (lrec fn a ps assign body w.heap.size .done (H .ret)))/\W.heap[w.heap.size]? = H (.deferred (H [])))
   W1 kW (by omega)
   (fun k A B h hk=>⟨hI k A B h.1 hk.of_nul,hkeep hk h.2.1,hkeep hk h.2.2⟩)
   (fun A B h hk=>⟨hIx A B h.1 hk.of_nul,hkeep hk h.2.1,hkeep hk h.2.2⟩)
   (fun m k x W hkN h=>by
    obtain⟨fn',tms,asg,bo,y1,y2⟩:=jDV (n:=n) (P:=P) hfn hps S hS ab Ix hI hIx hround k x W hkN h.1 h.2.1 h.2.2;exact⟨fn',tms,asg,bo,y1,j6h y2⟩)
   ⟨hI 0 w W1 h0 kW.of_nul,l1,k1⟩).mono ?_)
  rintro e W2 ⟨⟨v,rfl⟩,(⟨hi,hl,hk⟩|⟨hi,hl,hk⟩)⟩
  ·exact⟨G,_,run_endLoop (P:=P) hl (by simp[lrec]),hdone _ _ (Nat.le_refl _) (hI _ _ _ hi (J0.mono (fun i _ e=>by show w.heap.size<=i;omega))) ((World.putObj_heap_other (by omega)).trans hk)⟩
  ·exact⟨H .ret,_,run_endLoop (P:=P) hl (by simp[lrec]),hstop _ _ (Nat.le_refl _) (hIx _ _ hi (J0.mono (fun i _ e=>by show w.heap.size<=i;omega))) ((World.putObj_heap_other (by omega)).trans hk)⟩
end
end
section
open Go.RowKit Go.Shelf
attribute [local go_sem] Oper.semAt_some
theorem jAA (l NN:Nat)(S:Nat->Prop)(ai:Nat->World->Prop)(Jx:World->Prop)(n₀:Nat)(hS:∀i,S i->i<n₀)(hJ:∀k W W',ai k W->Kp W W' Nul->ai k W')(hJx:∀W W',Jx W->Kp W W' Nul->Jx W')
 (hY:∀m k (x:Hd) sl W1,k<NN->ai k W1->YieldAt Fence.wide m prog l #[x.val sl] W1 fun e W'=>(e=Q (E J)/\ai (k+1) W'/\Kp W1 W' S)∨(e=Q (E R)/\Jx W'))
 (F:Nat->Prop) (hF:∀b,F b->¬S b) (N:Nat):∀(t:Nd) (sl:Value) (k:Nat) (W:World),t.size<=N->k+t.size<=NN->n₀<=W.heap.size->NdIn W F sl t->ai k W ->
 Calls prog 110 #[t.hd.val sl,.func (.yield l) #[] #[]] W fun e W'=>(e=Q (E J)/\ai (k+t.size) W'/\Kp W W' S)∨(e=Q (E R)/\Jx W'):=by
 induction N with
 | zero=>intro t sl k W h;have:=L7 t;omega
 | succ N ih=>
  intro t sl k W hN hNN hW hin hj;obtain⟨hd,ts⟩:=t;rw[NdIn] at hin;obtain⟨a,c,rfl,h2,h3,h4⟩:=hin;have hsz:Hid ((Nd.mk hd ts).size=1+D3 ts):=by show _=_;rw[Nd.size]
  have HN:=h_ hN;have HNN:=h_ hNN;have hkNN:k<NN:=by have:=L7 (Nd.mk hd ts);omega
  have IH:Hid (∀(t:Nd) (sl:Value) (k:Nat) (W:World),t.size<=N->k+t.size<=NN->n₀<=W.heap.size->NdIn W F sl t->ai k W ->
   Calls prog 110 #[t.hd.val sl,.func (.yield l) #[] #[]] W fun e W'=>(e=Q (E J)/\ai (k+t.size) W'/\Kp W W' S)∨(e=Q (E R)/\Jx W')):=ih
  have HS:=h_ hS;have HJ:=h_ hJ;have HJx:=h_ hJx;have HF:=h_ hF;have HW:=h_ hW;have hlen:ts.length<=9223372036854775807:=by unfold maxLen at h3;omega
  have H4:=h_ h4;clear ih hN hNN hS hJ hJx hF hW h4 h2 h3;generalize hn:ts.length=n at *;have HL:=h_ hn;have HLEN:=h_ hlen;clear hn hlen;generalize hSS:(Nd.mk hd ts).size=SZ at *;simp only[Nd.hd];obtain⟨W0,hW0⟩:=e_ (W.alloc (.cells #[O I hd.k,O I hd.o,ap ao hd.x,aq hd.s,E hd.b,O I hd.f,O I hd.c1,O I hd.r1,E hd.p1,E hd.q1,O I hd.c2,O I hd.r2,E hd.p2,E hd.q2,U a n c] 48));have K0:Kp W W0 Nul:=by rw[<- hW0];exact(Kp.refl W Nul).alloc _
  have B0:Blk W0 W.heap.size (hd.cells (U a n c)) 48:=by rw[<- hW0];exact Blk.new W (hd.cells (U a n c)) _
  obtain⟨fn,tms,asg,bod,hy,hR⟩:=hY 7 k hd (U a n c) W0 hkNN (HJ.o k W W0 hj K0);have HY:=h_ hR;have HB0:=h_ B0;have HK0:=h_ K0;have HW0:=h_ hW0;have HR0:Hid ((W.alloc (.cells #[O I hd.k,O I hd.o,ap ao hd.x,aq hd.s,E hd.b,O I hd.f,O I hd.c1,O I hd.r1,E hd.p1,E hd.q1,O I hd.c2,O I hd.r2,E hd.p2,E hd.q2,U a n c] 48)).rangeAt W.heap.size 0 (hd.cells (U a n c))):=by
   show World.rangeAt _ _ _ _;rw[hW0];intro j v hj;rw[cell_of_row W0 _ _ _ _ _ B0,Nat.zero_add]
   simpa using hj
  clear hR hW0 K0 B0 hj hY hkNN;refine(callsIn_wide (n:=8)).1 ?_;refine callsIn_of_wp func110 rfl trivial ?_ rfl;simp only[ntmps110,List.size_toArray,List.length_cons,List.length_nil,Nat.reduceAdd,Nat.reduceSub,Array.replicate_succ,Array.replicate_zero,List.push_toArray,List.append_toArray,List.nil_append,List.cons_append]
  gi_wp2_with (first|(refine j3O rfl (.tmp 2) rfl W.heap.size 0 rfl (hd.cells (U a n c)) HR0.o rfl ?_)|fail)
  rw[HW0.o];have hy':=hy;rw[hy',Oper.uponIn_round];clear hy hy' HR0;refine⟨fun _=>by decide,HY.o.mono ?_⟩;clear HY;rintro e w1 (⟨rfl,hj1,hk1⟩|⟨rfl,hx1⟩)
  case inr=>
   have HX1:=h_ hx1;clear hx1
   gi_wp2_with (fail)
   refine bodyPost_ret (results_tmp rfl _ _ _) rfl ?_;exact .inr ⟨rfl,HX1.o⟩
  have HJ1:=h_ hj1;have HK1:=h_ hk1;have HWlt:=h_ (Nat.le_trans HW.o (Nat.le_trans HK0.o.size hk1.size));have HB1:=h_ (HB0.o.kp hk1 (fun h=>by have:=HS.o _ h;have:=HW.o;omega));have HKW:=h_ (HK0.o.of_nul.trans hk1);have c14:=HB1.o.c_ 14 rfl;clear hj1 hk1
  gi_wp2_with (fail)
  clear c14
  gi_loopw [14] (fun i wr=>∃q:Nat,q<=n/\i=O I q/\ai (k+1+D3 (ts.take q)) wr/\Kp w1 wr S) (fun i _=>n-(RowKit.intOf i).toNat)
  case atStart=>exact⟨0,Nat.zero_le _,rfl,by simpa [D3] using HJ1.o,Kp.refl _ _⟩
  case round=>
   obtain⟨q,hq,rfl,hjq,hkq⟩:=hrel;have JQ:=h_ hjq;have KQ:=h_ hkq;clear hjq hkq;by_cases hlt:q<n
   ·have hqt:q<ts.length:=(by rw[HL.o];exact hlt);obtain⟨b,o,rfl,hFb,hns⟩:∃b o,a=H ⟨b,o,G⟩/\F b/\F6 W F b o ts:=by
     rcases H4.o with h|h
     ·rw[h.1] at hqt;simp at hqt
     ·exact h
    obtain⟨s1,hr,hni⟩:=hns.get q hqt;have hkw:=HKW.o.trans KQ.o;have HR:=h_ (I7 hr (hkw.block b (Q0 hr) (HF.o b hFb)));have hni':=hni.kp hkw HF.o;have O1:=h_ hni.one;have hs1:=Q4 ts q hqt;have hs2:=j2W ts q hqt;have hs3:=j2X ts (q+1);have HC:=(h_ fun wq (hq:Kp wr wq Nul)=>IH.o ts[q] s1 _ wq (by have:=HN.o;have:=hsz.o;omega) (by have:=HNN.o;have:=hsz.o;omega) (Nat.le_trans HWlt.o (Nat.le_trans KQ.o.size hq.size)) (hni'.kp hq (fun _ _ x=>x)) (HJ.o _ _ _ JQ.o hq));have hA:=h_ (j2W ts q hqt);clear hs1 hs2 hs3 hni hni' hr hns hkw;generalize (ts[q]).size=z at *;generalize (ts[q]).hd=hh at *;have hkb:(q:Int)+1<=9223372036854775807:=(by have:=HLEN.o;omega);have hq0:(0:Int)<=(q:Int):=(by omega);have hqn:(q:Int)<(n:Int):=(by omega);have HRn:Hid ((wr.alloc (.cells (hh.cells s1).toArray 48)).rangeAt wr.heap.size 0 (hh.cells s1)):=by
     show World.rangeAt _ _ _ _;intro j v hj;rw[cell_of_row _ _ _ _ _ _ (heap_alloc_new _ _),Nat.zero_add]
     simpa using hj
    gi_wp2_with (first|(refine j3O rfl (.tmp 16) rfl b (o+q*15) rfl (hh.cells s1) HR.o rfl ?_)|(refine jE7 rfl (.tmp 6) (.tmp 17) rfl _ _ _ _ (by first|rfl|simp) rfl rfl rfl rfl (hh.one O1.o) ?_)|(refine j3O rfl (.tmp 6) rfl wr.heap.size 0 rfl (hh.cells s1) HRn.o rfl ?_)|fail)
    refine⟨trivial,(callsIn_wide.2 (HC.o _ ((Kp.refl _ _).alloc _))).mono ?_⟩;rintro e w2 (⟨rfl,hj2,hk2⟩|⟨rfl,hx2⟩)
    ·have HJ2:Hid (ai (k+1+D3 (ts.take (q+1))) w2):=(by show ai _ _;rw[hA.o,<- Nat.add_assoc];exact hj2);have HK2:=h_ ((KQ.o.alloc _).trans hk2);clear hj2 hk2 HC HR HRn
     gi_wp2_with (fail)
     exact⟨⟨q+1,by omega,by go_num,HJ2.o,HK2.o⟩,by simp only[RowKit.intOf];omega⟩
    ·have HX2:=h_ hx2;clear hx2 HC HR HRn
     gi_wp2_with (fail)
     refine bodyPost_ret (results_tmp rfl _ _ _) rfl ?_;exact .inr ⟨rfl,HX2.o⟩
   ·have hqe:q=n:=(by omega);subst hqe;have hqn:¬((q:Int)<(q:Int)):=(by omega);have JE:Hid (ai (k+SZ) wr):=by
     have:=JQ.o;rw[<- HL.o,List.take_length] at this;show ai _ _;rw[hsz.o,<- Nat.add_assoc];exact this
    gi_wp2_with (fail)
    refine bodyPost_ret (results_tmp rfl _ _ _) rfl ?_;exact .inl ⟨rfl,JE.o,HKW.o.trans KQ.o⟩
theorem j9e (l NN:Nat)(S:Nat->Prop)(ai:Nat->World->Prop)(Jx:World->Prop)(n₀:Nat)(hS:∀i,S i->i<n₀)(hJ:∀k W W',ai k W->Kp W W' Nul->ai k W')(hJx:∀W W',Jx W->Kp W W' Nul->Jx W')
 (hY:∀m k (x:Hd) sl W1,k<NN->ai k W1->YieldAt Fence.wide m prog l #[x.val sl] W1 fun e W'=>(e=Q (E J)/\ai (k+1) W'/\Kp W1 W' S)∨(e=Q (E R)/\Jx W'))
 (F:Nat->Prop) (hF:∀b,F b->¬S b) (t:Nd) (sl:Value) (k nb:Nat) (W:World) (hNN:k+t.size<=NN) (hW:n₀<=W.heap.size) (hin:NdIn W F sl t) (hj:ai k W) (hb:Blk W nb (t.hd.cells sl) 48) :
 Calls prog 109 #[.func (.yield l) #[] #[],an (H ⟨nb,0,G⟩)] W fun e W'=>(∃v,e=Q v)/\(ai (k+t.size) W'∨Jx W'):=by
 have HC:=h_ (jAA l NN S ai Jx n₀ hS hJ hJx hY F hF t.size t sl k W (Nat.le_refl _) hNN hW hin hj);have HB:=h_ hb;clear hS hJ hJx hY hF hW hin hj hb hNN;generalize t.size=z at *;generalize t.hd=h at *;go_enter func109,ntmps109;go_wp2_with (first|(refine U0 rfl (.tmp 1) rfl nb rfl (h.cells sl).toArray HB.o rfl ?_)|fail);refine HC.o.mono ?_;rintro e w1 (⟨rfl,hj1,_⟩|⟨rfl,hx1⟩)
 ·have HJ1:=h_ hj1;clear hj1;go_wp2_with fail
  go_end0
  exact⟨⟨_,rfl⟩,.inl HJ1.o⟩
 ·have HJ1:=h_ hx1;clear hx1;go_wp2_with fail
  go_end0
  exact⟨⟨_,rfl⟩,.inr HJ1.o⟩
theorem j9f (h:Hd)(sl:Value)(w:World):
 Calls prog 68 #[h.val sl] w fun e w'=>e=Q (.func (.func 109) #[] #[an (H ⟨w.heap.size,0,G⟩)])/\w'=w.alloc (.cells (h.cells sl).toArray 48):=by
 go_enter func68,ntmps68;go_wp2_with fail;go_ret;exact⟨rfl,rfl⟩
end
section
open Go.RowKit Go.Shelf
attribute [local go_sem] Oper.semAt_some
theorem j2N {fn:Func}{p:Tmp}(h:fn.results=#[.cell p 4]){tmps:Array Value}{b:Nat}{v:Bool}{w:World}(hp:tmps.getD p undef=an (H ⟨b,0,G⟩))(hb:Blk w b [E v] 4):
 (results fn tmps).run prog w=.ok (E v) w:=by
 have hc:=hb.c_ 0 rfl;rw[jD8 h,hp];simp[go_sem,asAddr,hc]
theorem jEL (t:Nd)(sl:Value)(F:Nat->Prop)(w:World)(hin:NdIn w F sl t):
 Calls prog 119 #[t.hd.val sl] w fun e w'=>e=Q (E (decide (256<t.size)))/\Kp w w' Nul:=by
 have hin0:NdIn w (fun b=>b<w.heap.size) sl t:=hin.mono (fun b _ hlt=>⟨rfl,hlt⟩);have HE:=h_ (j9f t.hd sl);have HIN:=h_ hin0;clear hin hin0;refine(callsIn_wide (n:=12)).1 ?_;refine callsIn_of_wp_marks func119 rfl trivial ?_ rfl;simp only[ntmps119,List.size_toArray,List.length_cons,List.length_nil,Nat.reduceAdd,Nat.reduceSub,Array.replicate_succ,Array.replicate_zero,List.push_toArray,List.append_toArray,List.nil_append,List.cons_append]
 gi_wp2_with (fail)
 refine⟨trivial,(callsIn_wide.2 (HE.o _)).mono ?_⟩;rintro e w1 ⟨rfl,hw1⟩;obtain⟨W2,hW2⟩:=e_ ((((w.alloc (.cells (t.hd.cells sl).toArray 48)).alloc (.cells #[E R] 4)).alloc (.cells #[O I 0] 3)));have hw1':w1=W2.alloc (.cells (t.hd.cells sl).toArray 48):=by rw[<- hW2];exact hw1
 have z2:W2.heap.size=w.heap.size+3:=by rw[<- hW2];simp
 have z1:w1.heap.size=w.heap.size+4:=by rw[hw1'];simp[z2]
 have k2:Kp w W2 Nul:=by rw[<- hW2];exact(((Kp.refl w Nul).alloc _).alloc _).alloc _
 have k1:Kp w w1 Nul:=by rw[hw1'];exact k2.alloc _
 have bc:Blk w1 (w.heap.size+1+1) [O I 0] 3:=by
  have:=Blk.new ((w.alloc (.cells (t.hd.cells sl).toArray 48)).alloc (.cells #[E R] 4)) [O I 0] 3;rw[World.size_alloc,World.size_alloc] at this;rw[hw1',<- hW2];exact this.alloc _
 have br:Blk w1 (w.heap.size+1) [E R] 4:=by
  have:=Blk.new (w.alloc (.cells (t.hd.cells sl).toArray 48)) [E R] 4;rw[World.size_alloc] at this;rw[hw1',<- hW2];exact(this.alloc _).alloc _
 have bn:Blk w1 (w.heap.size+3) (t.hd.cells sl) 48:=by
  have:=Blk.new W2 (t.hd.cells sl) 48;rw[z2] at this;rw[hw1'];exact this
 clear hw1 hw1' HE
 gi_wp2_with (fail)
 have hf:∀ {W W':World},Kp W W' (fun i=>w1.heap.size<=i)->∀ {b:Nat} {cs:List Value} {ty:TypeId},b<w1.heap.size->Blk W b cs ty->Blk W' b cs ty:=fun hk _ _ _ hb h=>h.kp hk (by omega)
 generalize hact:Act.mk _ _=a0;refine jEy (α:=Hd×Value) (N:=t.size) (by decide) (gf:=109) (lb:=#[an (H ⟨w.heap.size+3,0,G⟩)]) (by rw[<- hact];rfl) (enters_of func109 (by kernel_rfl) rfl)
  (encs:=fun x=>#[x.1.val x.2]) (fun _=>rfl) (fun i=>i=w.heap.size+1+1∨i=w.heap.size+1) (fun i h=>by rcases h with h|h <;> omega)
  ?hseq
  (fun k W=>Blk W (w.heap.size+1+1) [O I k] 3/\Blk W (w.heap.size+1) [E R] 4/\k<=256/\Kp w W Nul)
  (fun W=>256<t.size/\Blk W (w.heap.size+1) [E J] 4/\Kp w W Nul)
  ?hI ?hIx ⟨bc,br,by decide,k1⟩ ?hround ?hdone ?hstop
 case hseq=>
  intro ai Jx W hk hsz hJ hJx hY h0;have:=j9e (w1.heap.size+1) t.size (fun i=>(i=w.heap.size+1+1∨i=w.heap.size+1)∨i=w1.heap.size+1) ai Jx (w1.heap.size+2) (fun i h=>by rcases h with (h|h)|h <;> omega) hJ hJx (fun m k x sl W1 hk hj=>hY m k (x,sl) W1 hk hj)
   (fun b=>b<w.heap.size) (fun b hb h=>by rcases h with (h|h)|h <;> omega) t sl 0 (w.heap.size+3) W (by omega) hsz ((HIN.o.kp k1 (fun _ _ x=>x)).kp hk (fun _ _ x=>x)) h0 (bn.kp hk (fun x=>x))
  rw[Nat.zero_add] at this;exact this
 case hI=>
  rintro k W W' ⟨h1,h2,h3,h4⟩ hk;exact⟨hf hk (by omega) h1,hf hk (by omega) h2,h3,h4.trans' hk (fun i hi e=>by have:w1.heap.size<=i:=e;omega)⟩
 case hIx=>
  rintro W W' ⟨h1,h2,h4⟩ hk;exact⟨h1,hf hk (by omega) h2,h4.trans' hk (fun i hi e=>by have:w1.heap.size<=i:=e;omega)⟩
 case hround=>
  subst hact;rintro l k x W K hl hkN ⟨h1,h2,h3,h4⟩ hK;simp only[List.zip_toArray,List.zip_cons_cons,List.zip_nil_right,List.foldl_toArray',List.foldl_cons,List.foldl_nil]
  gi_wp2_with (fail)
  refine hK _ _ (Kp.refl _ _) fun V hV=>?_
  have c1:=hf hV (by omega) h1;have c2:=hf hV (by omega) h2;have x1:=c1.c_ 0 rfl;have x2:=c1.froz 0;have x3:=c2.froz 0;have x4:=c2.c_ 0 rfl;have C1:=h_ c1;have C2:=h_ c2;have H4:=h_ (h4.trans' hV (fun i hi e=>by have:w1.heap.size<=i:=e;omega));have HKN:=h_ hkN;clear c1 c2 h4 hV h1 h2 hK bc br bn k1 k2 hf z1 z2 hW2 hkN HIN;by_cases hk6:k<256
  ·have j1:¬(256:Int)<(k:Int)+1:=(by omega);have j2:(k:Int)+1<=9223372036854775807:=by omega
   gi_wp2_with (fail)
   exact⟨(Kp.refl V _).setCell _ _ (.inr (.inl rfl)),C1.o.set 0 _,C2.o.other ⟨w.heap.size+1+1,0,G⟩ _ (by show w.heap.size+1≠w.heap.size+1+1;omega),by omega,H4.o.setCell _ _ (.inl (by show w.heap.size<=w.heap.size+1+1;omega))⟩
  ·have hk6':k=256:=(by omega);subst hk6';have j1:(256:Int)<((256:Nat):Int)+1:=by omega
   gi_wp2_with (fail)
   refine⟨((Kp.refl V _).setCell _ _ (.inr (.inl rfl))).setCell _ _ (.inr (.inr rfl)),HKN.o,?_,(H4.o.setCell _ _ (.inl (by show w.heap.size<=w.heap.size+1+1;omega))).setCell _ _ (.inl (by show w.heap.size<=w.heap.size+1;omega))⟩;exact(C2.o.other ⟨w.heap.size+1+1,0,G⟩ _ (by show w.heap.size+1≠w.heap.size+1+1;omega)).set 0 (E J)
 case hdone=>
  subst hact;rintro D W hD ⟨h1,h2,h3,h4⟩ hK;have H2:=h_ h2;have H4:=h_ h4;have HD:=h_ hD;have HX:=h_ hK;have x2:=h2.froz 0;have x1:=h2.c_ 0 rfl;have hz:Hid (w.heap.size+4<=D):=by show _<=_;omega
  have hN:Hid (decide (256<t.size)=R):=by show _=_;simp;omega
  clear h1 h2 h3 h4 hD hK bc br bn k1 k2 hf z1 z2 hW2 HIN
  gi_wp2_with (fail)
  have HB:Blk (W.setCell ⟨w.heap.size+1,0,G⟩ (E R)) (w.heap.size+1) [E R] 4:=H2.o.set 0 _;have HY:(W.setCell ⟨w.heap.size+1,0,G⟩ (E R)).heap[D]? = H (.deferred (H [])):=(heap_setCell_other _ _ _ _ (by show D≠w.heap.size+1;have:=hz.o;omega)).trans HX.o;refine⟨by simp,.inl ⟨_,_,rfl,run_takeDeferred HY,?_⟩⟩;refine⟨_,j2N rfl rfl (HB.kp J0 (by show ¬w.heap.size+1=D;have:=hz.o;omega)),by rw[hN.o],?_⟩;exact X6 (H4.o.setCell _ _ (.inl (by show w.heap.size<=w.heap.size+1;omega))) (by have:=hz.o;omega)
 case hstop=>
  subst hact;rintro D W hD ⟨h1,h2,h4⟩ hK;have H2:=h_ h2;have H4:=h_ h4;have HX:=h_ hK;have hz:Hid (w.heap.size+4<=D):=by show _<=_;omega
  have hN:Hid (decide (256<t.size)=J):=by show _=_;simp;omega
  clear h1 h2 h4 hD hK bc br bn k1 k2 hf z1 z2 hW2 HIN
  gi_wp2_with (fail)
  refine⟨by simp,.inl ⟨_,_,rfl,run_takeDeferred HX.o,?_⟩⟩;refine⟨_,j2N rfl rfl (H2.o.kp J0 (by show ¬w.heap.size+1=D;have:=hz.o;omega)),by rw[hN.o],?_⟩;exact X6 H4.o (by have:=hz.o;omega)
end
section
open Go.RowKit Go.Shelf
attribute [local go_sem] Oper.semAt_some
def More (Z Z':Nat->Prop) (W:World):Prop:=∀i,Z' i->Z i∨W.heap.size<=i
theorem Kp.cut {w w1 w2:World}{S ak:Nat->Prop}(h:Kp w w1 S)(k:Kp w1 w2 ak)(hT:∀i,i<w.heap.size->ak i->S i):Kp w w2 S:=
 ⟨k.os.trans h.os,k.tape.trans h.tape,k.output.trans h.output,Nat.le_trans h.size k.size,fun i hi hs=>(k.block i (Nat.lt_of_lt_of_le hi h.size) (fun q=>hs (hT i hi q))).trans (h.block i hi hs)⟩
section
variable {n:Nat} {P:Program} {α:Type} {g:Operand} {ps:Array Tmp} {assign body:Code} {am:Exit->Act->World->Prop} {a:Act} {w:World}
theorem jDW {encs:α->Array Value}{Wt:α->Nat->Prop}{fn:FuncId}{N:Nat}(hfn:Fence.wide.fn fn)(hps:∀x,(encs x).size=ps.size)(ak:Nat->α->(Nat->Prop)->World->Prop)(hT:∀k x Z W,ak k x Z W->¬Wt x w.heap.size/\¬Wt x (w.heap.size+1))
 (ab:Nat->(Nat->Prop)->World->Prop) (hZ:∀k Z W,ab k Z W->¬Z w.heap.size/\¬Z (w.heap.size+1)) (hI:∀k Z W W',ab k Z W->Kp W W' (fun i=>i=w.heap.size∨i=w.heap.size+1)->ab k Z W') (Ix:World->Prop) (hIx:∀W W',Ix W->Kp W W' (fun i=>i=w.heap.size∨i=w.heap.size+1)->Ix W')
 (hround:∀(k:Nat) (x:α) (Z:Nat->Prop) (W:World) (K:Act->World->Prop),k<N->w.heap.size+2<=W.heap.size->ab k Z W->ak k x Z W->(∀a' W',Kp W W' Nul->(∀V,Kp W' V (fun i=>i=w.heap.size+1)->(∃r,V.heap[w.heap.size+1]? = H (.loop r))->body.wpIn (Fence.wide.inRound (w.heap.size+1)) (n-1-1) P (fun e _ X=>(e=.normal/\Kp V X (fun i=>(Z i∨Wt x i)∨W.heap.size<=i)/\∃Z',ab (k+1) Z' X/\More Z Z' W)∨(e=.ret/\Kp V X (fun i=>(Z i∨Wt x i)∨W.heap.size<=i)/\Ix X)) a' V)->K a' W') ->
  assign.wpIn (Fence.wide.inRound (w.heap.size+1)) (n-1-1) P (Exit.then K (fun _ _ _=>False)) { tmps:=(ps.zip (encs x)).foldl (fun t (p,v)=>t.setIfInBounds p v) a.tmps,defers:=[] } W)
 (k:Nat) (x:α) (Z:Nat->Prop) (W:World) (hkN:k<N) (hi:ab k Z W) (ht:ak k x Z W) (hl:W.heap[w.heap.size+1]? = H (.loop (lrec fn a ps assign body w.heap.size .ready G))) (hk:W.heap[w.heap.size]? = H (.deferred (H []))) :
 YieldAt Fence.wide (n-1-1) P (w.heap.size+1) (encs x) W fun e W'=>
  (e=Q (E J)/\(∃Z',(ab (k+1) Z' W'/\W'.heap[w.heap.size+1]? = H (.loop (lrec fn a ps assign body w.heap.size .ready G))/\W'.heap[w.heap.size]? = H (.deferred (H [])))/\More Z Z' W)/\Kp W W' (fun i=>(Z i∨Wt x i)∨i=w.heap.size+1)) ∨
  (e=Q (E R)/\(Ix W'/\W'.heap[w.heap.size+1]? = H (.loop (lrec fn a ps assign body w.heap.size .done (H .ret)))/\W'.heap[w.heap.size]? = H (.deferred (H [])))):=by
 have hy:=run_yield (P:=P) (args:=encs x) hl (hps x);have hWl:w.heap.size+1<W.heap.size:=(Array.getElem?_eq_some_iff.1 hl).1;refine⟨fn,_,assign,body,hy,roundIn_of_wpIn hfn (hround k x Z W _ hkN hWl hi ht ?_)⟩;clear hy;intro a' V hkp hbody;have vl:=(hkp.block _ hWl (fun x=>x)).trans hl;have vk:=(hkp.block _ (by omega) (fun x=>x)).trans hk;have hlt:w.heap.size+1<V.heap.size:=(Array.getElem?_eq_some_iff.1 vl).1;refine⟨_,run_beginRound vl rfl,?_⟩;obtain⟨bz,hbz⟩:∃bz:Loop,{ lrec fn a ps assign body w.heap.size .ready G with state:=.busy }=bz:=⟨_,rfl⟩;obtain⟨aj,hU⟩:∃aj,V.putObj (w.heap.size+1) (.loop bz)=aj:=⟨_,rfl⟩;rw[hbz,hU];have ul:aj.heap[w.heap.size+1]? = H (.loop bz):=by rw[<- hU];exact World.putObj_heap_same hlt
 have uk:aj.heap[w.heap.size]? = H (.deferred (H [])):=by rw[<- hU];exact(World.putObj_heap_other (by omega)).trans vk
 have hVU:Kp V aj (fun i=>i=w.heap.size+1):=by rw[<- hU];exact J0
 refine wpIn_mono (hbody aj hVU ⟨_,ul⟩) ?_;have leave:∀(jump:Option Code) (X:World),Kp aj X (fun i=>(Z i∨Wt x i)∨W.heap.size<=i) ->
  (Instr.endRound (w.heap.size+1) jump).run P X=.ok (E jump.isNone) (X.putObj (w.heap.size+1) (.loop (lrec fn a ps assign body w.heap.size (if jump.isNone then .ready else .done) jump))) /\
  (X.putObj (w.heap.size+1) (.loop (lrec fn a ps assign body w.heap.size (if jump.isNone then .ready else .done) jump))).heap[w.heap.size+1]? = H (.loop (lrec fn a ps assign body w.heap.size (if jump.isNone then .ready else .done) jump)) /\
  (X.putObj (w.heap.size+1) (.loop (lrec fn a ps assign body w.heap.size (if jump.isNone then .ready else .done) jump))).heap[w.heap.size]? = H (.deferred (H []))/\Kp X (X.putObj (w.heap.size+1) (.loop (lrec fn a ps assign body w.heap.size (if jump.isNone then .ready else .done) jump))) (fun i=>i=w.heap.size+1):=by
  intro jump X hX;have hUl:w.heap.size+1<aj.heap.size:=(Array.getElem?_eq_some_iff.1 ul).1;have xl:=(hX.block _ hUl (fun q=>q.elim (fun q=>q.elim (hZ _ _ _ hi).2 (hT _ _ _ _ ht).2) (fun q=>by omega))).trans ul;have xk:=(hX.block _ (by omega) (fun q=>q.elim (fun q=>q.elim (hZ _ _ _ hi).1 (hT _ _ _ _ ht).1) (fun q=>by omega))).trans uk;refine⟨?_,World.putObj_heap_same (Array.getElem?_eq_some_iff.1 xl).1,(World.putObj_heap_other (by omega)).trans xk,J0⟩;have:=run_endRound (P:=P) jump xl;rw[<- hbz] at this;exact this
 rintro e a3 X (⟨rfl,q1,Z',q2,q3⟩|⟨rfl,q1,q2⟩)
 ·obtain⟨r1,r2,r3,r4⟩:=leave G X q1;refine⟨_,_,r1,.inl ⟨rfl,⟨Z',⟨hI _ _ _ _ q2 (r4.mono (fun i _ e=>.inr e)),r2,r3⟩,q3⟩,?_⟩⟩;exact((hkp.of_nul.trans (hVU.mono (fun i _ e=>.inr e))).cut q1 (fun i hi e=>e.elim .inl (fun q=>by omega))).trans (r4.mono (fun i _ e=>.inr e))
 ·obtain⟨r1,r2,r3,r4⟩:=leave (H .ret) X q1;exact⟨_,_,r1,.inr ⟨rfl,hIx _ _ q2 (r4.mono (fun i _ e=>.inr e)),r2,r3⟩⟩
def j0Y (P:Program) (gf:Nat) (lb:Array Value) (encs:α->Array Value) (Wt:α->Nat->Prop) (ak:Nat->α->(Nat->Prop)->World->Prop) (N:Nat) (S:Nat->Prop) (w:World):Prop:=
 ∀(ai:Nat->(Nat->Prop)->World->Prop) (Jx:World->Prop) (Z:Nat->Prop) (W:World),Kp w W Nul->w.heap.size+2<=W.heap.size->(∀k Z W W',ai k Z W->Kp W W' Nul->ai k Z W')->(∀W W',Jx W->Kp W W' Nul->Jx W')->(∀k Z W,ai k Z W->(∀i,Z i->i<W.heap.size)/\∀i,i<w.heap.size->Z i->S i) ->
  (∀m k x Z W1,k<N->ai k Z W1->ak k x Z W1->YieldAt Fence.wide m P (w.heap.size+1) (encs x) W1 fun e W'=>(e=Q (E J)/\(∃Z',ai (k+1) Z' W'/\More Z Z' W1)/\Kp W1 W' (fun i=>(Z i∨Wt x i)∨i=w.heap.size+1))∨(e=Q (E R)/\Jx W'))->ai 0 Z W ->
  Calls P gf (#[.func (.yield (w.heap.size+1)) #[] #[]]++lb) W fun e W'=>(∃v,e=Q v)/\((∃Z',ai N Z' W')∨Jx W')
theorem j11 {gf:Nat}{lb:Array Value}(hg:a.eval g=.func (.func gf) #[] lb)(eg:∀args w,(callFunc gf args).run P w=.ok (.enter gf args) w)
 {encs:α->Array Value} (Wt:α->Nat->Prop) (hps:∀x,(encs x).size=ps.size) (ak:Nat->α->(Nat->Prop)->World->Prop) (hT:∀k x Z W,ak k x Z W->¬Wt x w.heap.size/\¬Wt x (w.heap.size+1)) {N:Nat} (S:Nat->Prop)
 (hseq:j0Y P gf lb encs Wt ak N S w)
 (ab:Nat->(Nat->Prop)->World->Prop) (hZ:∀k Z W,ab k Z W->¬Z w.heap.size/\¬Z (w.heap.size+1)) (hZl:∀k Z W,ab k Z W->(∀i,Z i->i<W.heap.size)/\∀i,i<w.heap.size->Z i->S i)
 (hI:∀k Z W W',ab k Z W->Kp W W' (fun i=>i=w.heap.size∨i=w.heap.size+1)->ab k Z W') (Ix:World->Prop) (hIx:∀W W',Ix W->Kp W W' (fun i=>i=w.heap.size∨i=w.heap.size+1)->Ix W') (Z0:Nat->Prop) (h0:ab 0 Z0 w)
 (hround:∀(k:Nat) (x:α) (Z:Nat->Prop) (W:World) (K:Act->World->Prop),k<N->w.heap.size+2<=W.heap.size->ab k Z W->ak k x Z W->(∀a' W',Kp W W' Nul->(∀V,Kp W' V (fun i=>i=w.heap.size+1)->(∃r,V.heap[w.heap.size+1]? = H (.loop r))->body.wpIn (Fence.wide.inRound (w.heap.size+1)) (8-1-1) P (fun e _ X=>(e=.normal/\Kp V X (fun i=>(Z i∨Wt x i)∨W.heap.size<=i)/\∃Z',ab (k+1) Z' X/\More Z Z' W)∨(e=.ret/\Kp V X (fun i=>(Z i∨Wt x i)∨W.heap.size<=i)/\Ix X)) a' V)->K a' W') ->
  assign.wpIn (Fence.wide.inRound (w.heap.size+1)) (8-1-1) P (Exit.then K (fun _ _ _=>False)) { tmps:=(ps.zip (encs x)).foldl (fun t (p,v)=>t.setIfInBounds p v) a.tmps,defers:=[] } W)
 (hdone:∀(D:Nat) (Z:Nat->Prop) (W:World),D=w.heap.size->ab N Z W->W.heap[D]? = H (.deferred (H []))->am .normal { a with defers:={ target:=.collected D,args:=#[] }::a.defers } W)
 (hstop:∀(D:Nat) (W:World),D=w.heap.size->Ix W->W.heap[D]? = H (.deferred (H []))->Code.ret.wp P am { a with defers:={ target:=.collected D,args:=#[] }::a.defers } W) :
 (Code.rangeFunc g ps assign body).wp P am a w:=by
 refine(wpIn_wide (n:=8)).1 ?_;refine wpIn_rangeFunc fun fn hfn=>?_
 obtain⟨W1,hW1⟩:∃W1,(w.alloc (.deferred (H []))).alloc (.loop (lrec fn a ps assign body w.heap.size .ready G))=W1:=⟨_,rfl⟩;have l1:W1.heap[w.heap.size+1]? = H (.loop (lrec fn a ps assign body w.heap.size .ready G)):=by
  have:=World.alloc_heap_new (w.alloc (.deferred (H []))) (.loop (lrec fn a ps assign body w.heap.size .ready G));rw[World.size_alloc,hW1] at this;exact this
 have k1:W1.heap[w.heap.size]? = H (.deferred (H [])):=by rw[<- hW1];exact(Below.heap_alloc _ _ _ (by simp)).trans (World.alloc_heap_new w _)
 have s1:W1.heap.size=w.heap.size+2:=by rw[<- hW1];simp
 have kW:Kp w W1 Nul:=by rw[<- hW1];exact((Kp.refl w Nul).alloc _).alloc _
 refine⟨w.heap.size+1,[{ target:=.collected w.heap.size,args:=#[] }],W1,{ target:=.fn (.func gf) lb,args:=#[.func (.yield (w.heap.size+1)) #[] #[]] },W1,gf,#[.func (.yield (w.heap.size+1)) #[] #[]]++lb,W1,?_,?_,fun f' _=>trivial,?_,fun _=>by decide,?_⟩
 ·rw[<- hW1];exact run_enterLoop_outer _ _ _ _ _
 ·simp only[resolve,hg];simp[go_sem]
 ·simp[invoke,go_sem,eg]
 ·have hkeep:∀ {A B:World} {o:Obj} {i:Nat},Kp A B Nul->A.heap[i]? = H o->B.heap[i]? = H o:=fun h e=>(h.block _ (Array.getElem?_eq_some_iff.1 e).1 (fun x=>x)).trans e
  refine callsIn_wide.2 ((hseq
   (fun k Z W=>ab k Z W/\W.heap[w.heap.size+1]? = H (.loop (lrec fn a ps assign body w.heap.size .ready G))/\W.heap[w.heap.size]? = H (.deferred (H [])))
   (fun W=>Ix W/\W.heap[w.heap.size+1]? = H (.loop (lrec fn a ps assign body w.heap.size .done (H .ret)))/\W.heap[w.heap.size]? = H (.deferred (H [])))
   Z0 W1 kW (by omega)
   (fun k Z A B h hk=>⟨hI k Z A B h.1 hk.of_nul,hkeep hk h.2.1,hkeep hk h.2.2⟩)
   (fun A B h hk=>⟨hIx A B h.1 hk.of_nul,hkeep hk h.2.1,hkeep hk h.2.2⟩)
   (fun k Z A h=>hZl k Z A h.1)
   (fun m k x Z W hkN h ht=>by
    obtain⟨fn',tms,asg,bo,y1,y2⟩:=jDW (n:=8) (P:=P) (Wt:=Wt) hfn hps ak hT ab hZ hI Ix hIx hround k x Z W hkN h.1 ht h.2.1 h.2.2;exact⟨fn',tms,asg,bo,y1,j6h y2⟩)
   ⟨hI 0 Z0 w W1 h0 kW.of_nul,l1,k1⟩).mono ?_)
  rintro e W2 ⟨⟨v,rfl⟩,(⟨Z,hi,hl,hk⟩|⟨hi,hl,hk⟩)⟩;rotate_left
  ·exact⟨H .ret,_,run_endLoop (P:=P) hl (by simp[lrec]),wpIn_wide.2 (hstop _ _ rfl (hIx _ _ hi (J0.mono (fun i _ e=>.inr e))) ((World.putObj_heap_other (by omega)).trans hk))⟩
  exact⟨G,_,run_endLoop (P:=P) hl (by simp[lrec]),hdone _ Z _ rfl (hI _ _ _ _ hi (J0.mono (fun i _ e=>.inr e))) ((World.putObj_heap_other (by omega)).trans hk)⟩
theorem jF2 {gf:Nat}{lb:Array Value}(hg:a.eval g=.func (.func gf) #[] lb)(eg:∀args w,(callFunc gf args).run P w=.ok (.enter gf args) w)
 {encs:α->Array Value} (hps:∀x,(encs x).size=ps.size) (ak:Nat->α->(Nat->Prop)->World->Prop) {N:Nat} (S:Nat->Prop)
 (hseq:j0Y P gf lb encs (fun _ _=>False) ak N S w)
 (ab:Nat->(Nat->Prop)->World->Prop) (hZ:∀k Z W,ab k Z W->¬Z w.heap.size/\¬Z (w.heap.size+1)) (hZl:∀k Z W,ab k Z W->(∀i,Z i->i<W.heap.size)/\∀i,i<w.heap.size->Z i->S i)
 (hI:∀k Z W W',ab k Z W->Kp W W' (fun i=>i=w.heap.size∨i=w.heap.size+1)->ab k Z W') (Z0:Nat->Prop) (h0:ab 0 Z0 w)
 (hround:∀(k:Nat) (x:α) (Z:Nat->Prop) (W:World) (K:Act->World->Prop),k<N->w.heap.size+2<=W.heap.size->ab k Z W->ak k x Z W->(∀a' W',Kp W W' Nul->(∀V,Kp W' V (fun i=>i=w.heap.size+1)->body.wpIn (Fence.wide.inRound (w.heap.size+1)) (8-1-1) P (fun e _ X=>e=.normal/\Kp V X Z/\∃Z',ab (k+1) Z' X/\More Z Z' W) a' V)->K a' W') ->
  assign.wpIn (Fence.wide.inRound (w.heap.size+1)) (8-1-1) P (Exit.then K (fun _ _ _=>False)) { tmps:=(ps.zip (encs x)).foldl (fun t (p,v)=>t.setIfInBounds p v) a.tmps,defers:=[] } W)
 (hdone:∀(D:Nat) (Z:Nat->Prop) (W:World),w.heap.size<=D->ab N Z W->W.heap[D]? = H (.deferred (H []))->am .normal { a with defers:={ target:=.collected D,args:=#[] }::a.defers } W) :
 (Code.rangeFunc g ps assign body).wp P am a w:=
 j11 hg eg (fun _ _=>False) hps ak (fun _ _ _ _ _=>⟨id,id⟩) S hseq ab hZ hZl hI (fun _=>False) (fun _ _ h _=>h) Z0 h0 (fun k x Z W K hk hl hi ht hK=>hround k x Z W K hk hl hi ht (fun a' W' k1 hb=>hK a' W' k1 (fun V kv _=>wpIn_mono (hb V kv) (fun _ _ _ q=>.inl ⟨q.1,q.2.1.mono (fun _ _ h=>.inl (.inl h)),q.2.2⟩)))) (fun D Z W hD=>hdone D Z W (Nat.le_of_eq hD.symm)) (fun _ _ _ h=>h.elim)
theorem jF1 {gf:Nat}{lb:Array Value}(hg:a.eval g=.func (.func gf) #[] lb)(eg:∀args w,(callFunc gf args).run P w=.ok (.enter gf args) w)
 {encs:α->Array Value} (Wt:α->Nat->Prop) (hps:∀x,(encs x).size=ps.size) (ak:Nat->α->(Nat->Prop)->World->Prop) (hT:∀k x Z W,ak k x Z W->¬Wt x w.heap.size/\¬Wt x (w.heap.size+1)) {N:Nat} (S:Nat->Prop)
 (hseq:j0Y P gf lb encs Wt ak N S w)
 (ab:Nat->(Nat->Prop)->World->Prop) (hZ:∀k Z W,ab k Z W->¬Z w.heap.size/\¬Z (w.heap.size+1)) (hZl:∀k Z W,ab k Z W->(∀i,Z i->i<W.heap.size)/\∀i,i<w.heap.size->Z i->S i)
 (hI:∀k Z W W',ab k Z W->Kp W W' (fun i=>i=w.heap.size∨i=w.heap.size+1)->ab k Z W') (Z0:Nat->Prop) (h0:ab 0 Z0 w)
 (hround:∀(k:Nat) (x:α) (Z:Nat->Prop) (W:World) (K:Act->World->Prop),k<N->w.heap.size+2<=W.heap.size->ab k Z W->ak k x Z W->(∀a' W',Kp W W' Nul->(∀V,Kp W' V (fun i=>i=w.heap.size+1)->body.wpIn (Fence.wide.inRound (w.heap.size+1)) (8-1-1) P (fun e _ X=>e=.normal/\Kp V X (fun i=>(Z i∨Wt x i)∨W.heap.size<=i)/\∃Z',ab (k+1) Z' X/\More Z Z' W) a' V)->K a' W') ->
  assign.wpIn (Fence.wide.inRound (w.heap.size+1)) (8-1-1) P (Exit.then K (fun _ _ _=>False)) { tmps:=(ps.zip (encs x)).foldl (fun t (p,v)=>t.setIfInBounds p v) a.tmps,defers:=[] } W)
 (hdone:∀(D:Nat) (Z:Nat->Prop) (W:World),D=w.heap.size->ab N Z W->W.heap[D]? = H (.deferred (H []))->am .normal { a with defers:={ target:=.collected D,args:=#[] }::a.defers } W) :
 (Code.rangeFunc g ps assign body).wp P am a w:=
 j11 hg eg Wt hps ak hT S hseq ab hZ hZl hI (fun _=>False) (fun _ _ h _=>h) Z0 h0 (fun k x Z W K hk hl hi ht hK=>hround k x Z W K hk hl hi ht (fun a' W' k1 hb=>hK a' W' k1 (fun V kv _=>wpIn_mono (hb V kv) (fun _ _ _ q=>.inl q)))) hdone (fun _ _ _ h=>h.elim)
end
end
section
open Go.RowKit Go.Shelf
attribute [local go_sem] Oper.semAt_some
end
section
open Go.RowKit Go.Shelf
attribute [local go_sem] Oper.semAt_some
end
section
open Go.RowKit
section
variable {P:Program} {l n:Nat} {a:Act} {w:World} {am:Exit->Act->World->Prop}
theorem jEx {o:Oper}{K:Act->World->Prop}(hd:∀c,o.op ≠ .defer c)(h:o.wp P a w K am):o.wpIn (Fence.wide.inRound l) n P a w K am:=by
 unfold Oper.wpIn;refine⟨fun _ _=>trivial,?_⟩;rw[Oper.semAt_eq _ _ _ hd];unfold Oper.wp at h;generalize (execOp a.eval o).run P w=r at *;cases r with
 | ok nx w'=>
  cases nx with
  | value v=>exact h
  | skip=>exact h
  | defer d=>exact h
  | enter f args=>exact⟨fun q=>(by cases q),callsIn_wide.2 h⟩
  | row row args=>exact⟨fun q=>(by cases q),fun c cs _=>let ⟨v,w2,r,s⟩:=h c cs;⟨v,w2,r,stepsIn_wide.2 s⟩⟩
  | _=>exact h.elim
 | halt x w'=>
  cases x with
  | panic v=>exact h
  | _=>exact h.elim
def j28 (ops:Array Oper):Bool:=ops.all fun o=>match o.op with
 | .defer _=>R
 | _=>J
theorem jBh {ops:Array Oper}(h:j28 ops=J){i:Nat}{o:Oper}(ho:ops[i]? = H o):∀c,o.op ≠ .defer c:=fun c e=>by
 unfold j28 at h;obtain⟨hi,rfl⟩:=Array.getElem?_eq_some_iff.1 ho;have:=Array.all_eq_true.1 h i hi;rw[e] at this;cases this
theorem j2g {md:Region.Mode}{ops:Array Oper}(hd:j28 ops=J)(hL:¬LetsOut am):∀(fuel:Nat) (listed:Array Bool) (a:Act) (w:World),wpAny P md ops am fuel listed a w->wpAnyIn (Fence.wide.inRound l) n P md ops am fuel listed a w
 | 0,_,_,_,h=>h
 | fuel+1,listed,a,w,h=>by
  refine⟨h.1,fun i hi=>?_⟩;have h1:=h.2 i hi;unfold wpOp at h1;unfold wpOpIn;split
  ·rename_i e
   rw[e] at h1;exact j2g hd hL fuel _ a w h1
  ·rename_i o e
   rw[e] at h1;simp only at h1;split
   ·rename_i hw
    rw[if_pos hw] at h1;rcases h1 with h1|h1
    ·exact jEx (jBh hd e) (Oper.wp_mono (fun a' w' q=>j2g hd hL fuel _ a' w' q) h1)
    ·exact absurd h1.2 hL
   ·rename_i hw
    rw[if_neg hw] at h1;exact⟨fun _ _=>trivial,j2g hd hL fuel _ _ w h1⟩
theorem j2M {id:Nat}{ops:Array Oper}(S:World->Prop)(hm:P.follows .mixedOrders=J)(hd:j28 ops=J)(hL:¬LetsOut am)(hS:S w.drew)(h:S w.drew->wpAnyH P .any ops am S ops.size (Array.replicate ops.size R) a w.drew):(Code.region id ops J).wpIn (Fence.wide.inRound l) n P am a w:=
 wpIn_region_any hm (j2g hd hL _ _ _ _ (wpAny_of_held _ _ _ _ (h hS)))
theorem j29 (hQ:∀a w,¬am .outgrown a w):¬LetsOut (NoPanic am):=fun ⟨a,w,h⟩=>hQ a w (NoPanic.imp _ _ _ h)
end
end
end Go.Proofs.YtecjfnkakodebaaGreatDoor
