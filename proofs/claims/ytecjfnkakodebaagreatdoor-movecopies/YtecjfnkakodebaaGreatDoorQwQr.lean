/-A range over a function that tells things one after another and writes. -/
import Derived.Test.YtecjfnkakodebaaGreatDoorQwUf
import Derived.Test.YtecjfnkakodebaaGreatDoorQwQa
import Derived.Test.YtecjfnkakodebaaGreatDoorQwXq
set_option maxRecDepth 100000
set_option maxHeartbeats 8000000
namespace Go.Proofs.YtecjfnkakodebaaGreatDoor
open Go.RowKit Go.Shelf
attribute [local go_sem] Oper.semAt_some
theorem wpInV {F:Fence} {n:Nat} {ops:Array Oper} {rest:List Oper} {o:Oper} {a:Act} {w w':World} {v:Value} {Q:Exit->Act->World->Prop} (hgd:Region.wanted o (yielded ops a.tmps)=true) (hab:o.about Tryz.prog w a.eval=none) (hpl:∀c,o.op ≠ .defer c) (he:(execOp a.eval o).run Tryz.prog w=.ok (.value v) w')
  (h:wpListIn F n Tryz.prog ops Q rest (a.put o.dst v) w'):wpListIn F n Tryz.prog ops Q (o::rest) a w:=by
 refine wpListIn_step fun K hK=>?_
 simp only[hgd,if_true]
 unfold Oper.wpIn
 refine⟨by simp[hab],?_⟩
 rw[Oper.semAt_plain F _ _ (fun c hc'=>hpl c hc'),he]
 exact hK _ _ h
theorem wpInS {F:Fence} {n:Nat} {ops:Array Oper} {rest:List Oper} {o:Oper} {a:Act} {w w':World} {Q:Exit->Act->World->Prop} (hgd:Region.wanted o (yielded ops a.tmps)=true) (hab:o.about Tryz.prog w a.eval=none) (hpl:∀c,o.op ≠ .defer c) (he:(execOp a.eval o).run Tryz.prog w=.ok .skip w')
  (h:wpListIn F n Tryz.prog ops Q rest (a.put o.dst undef) w'):wpListIn F n Tryz.prog ops Q (o::rest) a w:=by
 refine wpListIn_step fun K hK=>?_
 simp only[hgd,if_true]
 unfold Oper.wpIn
 refine⟨by simp[hab],?_⟩
 rw[Oper.semAt_plain F _ _ (fun c hc'=>hpl c hc'),he]
 exact hK _ _ h
theorem loadIn_node {F:Fence} {n:Nat} {ops:Array Oper} {rest:List Oper} {o:Oper} {a:Act} {w:World} {Q:Exit->Act->World->Prop} (hgd:Region.wanted o (yielded ops a.tmps)=true) (x:Operand) (ho:o.op=.load 48 x) (b p:Nat) (hx:a.eval x=.pointer (some ⟨b,p,none⟩)) (cs:List Value) (hc:w.rangeAt b p cs) (hcs:cs.length=15)
  (h:wpListIn F n Tryz.prog ops Q rest (a.put o.dst (.agg cs.toArray)) w):wpListIn F n Tryz.prog ops Q (o::rest) a w:=by
 refine wpInV hgd (by simp[Oper.about,ho]) (fun c hc'=>by rw[ho] at hc';cases hc') ?_ h
 unfold execOp
 simp only[ho,hx,Instr.loadAt,Instr.sureAddr,Sem.run_bind,Sem.run_pure,Result.andThen_ok,run_loadVar_mid w b p 48 cs _ hc Tryz.underlying48 rfl (by rw[hcs];exact infoNode)]
theorem storeIn_new {F:Fence} {n:Nat} {ops:Array Oper} {rest:List Oper} {o:Oper} {a:Act} {Q:Exit->Act->World->Prop} (hgd:Region.wanted o (yielded ops a.tmps)=true) (x y:Operand) (ho:o.op=.store 48 x y) (w:World) (z cells:Array Value) (N:Nat) (hN:N=w.heap.size) (hx:a.eval x=.pointer (some ⟨N,0,none⟩)) (hy:a.eval y=.agg cells)
  (hz:z.size=cells.size) (hi:cells.size=15) (h1:cells.all (·.oneCell')=true)
  (h:wpListIn F n Tryz.prog ops Q rest (a.put o.dst undef) (w.alloc (.cells cells 48))):wpListIn F n Tryz.prog ops Q (o::rest) a (w.alloc (.cells z 48)):=by
 subst hN
 have ht:(w.alloc (.cells z 48)).there w.heap.size 0 cells.size:=by
  intro j hj
  constructor
  ·rw[World.cell?_alloc_at _ _ _ _ rfl,Array.getElem?_eq_getElem (by omega)];rfl
  ·rw[frozen?_alloc_cells,frozen_new]
 have hs:=run_storeVar_mid (P:=Tryz.prog) (w.alloc (.cells z 48)) w.heap.size 0 48 cells ht (by rw[hi];exact infoNode) h1
 refine wpInS hgd (by simp[Oper.about,ho]) (fun c hc'=>by rw[ho] at hc';cases hc') ?_ h
 unfold execOp
 simp only[ho,hx,hy,Instr.storeAt,Instr.sureAddr,Sem.run_bind,Sem.run_pure,Result.andThen_ok,hs]
 rw[setCells_new w 48 z cells hz]
theorem roundIn_any {m m':Nat} {P:Program} {l:Nat} {f:FuncId} {tmps:Array Value} {assign body:Code} {w:World} {R:Ending->World->Prop} (h:RoundIn Fence.wide m P l f tmps assign body w R):RoundIn Fence.wide m' P l f tmps assign body w R:=
 ⟨h.1,fun c cs _=>h.2 c cs (room_wide _)⟩
theorem putObj_self {W:World} {l:Nat} {o:Obj}:Kp W (W.putObj l o) (fun i=>i=l):=
 ⟨rfl,rfl,rfl,by simp[World.putObj],fun i hi hs=>World.putObj_heap_other (fun e=>hs e)⟩
section
variable {n:Nat} {P:Program} {α:Type} {g:Operand} {ps:Array Tmp} {assign body:Code} {Q:Exit->Act->World->Prop} {a:Act} {w:World}
theorem round_each {encs:α->Array Value} {fn:FuncId} {N:Nat} (hfn:Fence.wide.fn fn) (hps:∀x,(encs x).size=ps.size) (S:Nat->Prop) (hS:∀i,S i->i<w.heap.size)
  (I:Nat->World->Prop) (Ix:World->Prop) (hI:∀k W W',I k W->Kp W W' (fun i=>w.heap.size<=i)->I k W') (hIx:∀W W',Ix W->Kp W W' (fun i=>w.heap.size<=i)->Ix W')
  (hround:∀(l:Nat) (k:Nat) (x:α) (W:World) (K:Act->World->Prop),w.heap.size<=l->k<N->I k W->(∀a' W',Kp W W' Nul->(∀V,Kp W' V (fun i=>w.heap.size<=i)->body.wpIn (Fence.wide.inRound l) (n-1-1) P (fun e _ X=>(e=.normal/\Kp V X S/\I (k+1) X)∨(e=.ret/\Kp V X S/\Ix X)) a' V)->K a' W') ->
   assign.wpIn (Fence.wide.inRound l) (n-1-1) P (Exit.then K (fun _ _ _=>False)) { tmps:=(ps.zip (encs x)).foldl (fun t (p,v)=>t.setIfInBounds p v) a.tmps,defers:=[] } W)
  (k:Nat) (x:α) (W:World) (hkN:k<N) (hi:I k W) (hl:W.heap[w.heap.size+1]? = some (.loop (lrec fn a ps assign body w.heap.size .ready none))) (hk:W.heap[w.heap.size]? = some (.deferred (some []))) :
  YieldAt Fence.wide (n-1-1) P (w.heap.size+1) (encs x) W fun e W'=>
   (e=.returned (.bool true)/\(I (k+1) W'/\W'.heap[w.heap.size+1]? = some (.loop (lrec fn a ps assign body w.heap.size .ready none))/\W'.heap[w.heap.size]? = some (.deferred (some [])))/\Kp W W' (fun i=>S i∨i=w.heap.size+1)) ∨
   (e=.returned (.bool false)/\Ix W'/\W'.heap[w.heap.size+1]? = some (.loop (lrec fn a ps assign body w.heap.size .done (some .ret)))/\W'.heap[w.heap.size]? = some (.deferred (some []))):=by
 have hy:=run_yield (P:=P) (args:=encs x) hl (hps x)
 refine⟨fn,_,assign,body,hy,roundIn_of_wpIn hfn (hround _ k x W _ (Nat.le_succ _) hkN hi ?_)⟩
 clear hy
 intro a' V hkp hbody
 have hWl:w.heap.size+1<W.heap.size:=(Array.getElem?_eq_some_iff.1 hl).1
 have vl:=(hkp.block _ hWl (fun x=>x)).trans hl
 have vk:=(hkp.block _ (by omega) (fun x=>x)).trans hk
 have hlt:w.heap.size+1<V.heap.size:=(Array.getElem?_eq_some_iff.1 vl).1
 refine⟨_,run_beginRound vl rfl,?_⟩
 obtain⟨bz,hbz⟩:∃bz:Loop,{ lrec fn a ps assign body w.heap.size .ready none with state:=.busy }=bz:=⟨_,rfl⟩
 obtain⟨U,hU⟩:∃U,V.putObj (w.heap.size+1) (.loop bz)=U:=⟨_,rfl⟩
 rw[hbz,hU]
 have ul:U.heap[w.heap.size+1]? = some (.loop bz):=by rw[<- hU];exact World.putObj_heap_same hlt
 have uk:U.heap[w.heap.size]? = some (.deferred (some [])):=by rw[<- hU];exact(World.putObj_heap_other (by omega)).trans vk
 have hVU:Kp V U (fun i=>i=w.heap.size+1):=by rw[<- hU];exact putObj_self
 refine wpIn_mono (hbody U (hVU.mono (fun i _ e=>by show w.heap.size<=i;omega))) ?_
 have leave:∀(jump:Option Code) (X:World),Kp U X S ->
   (Instr.endRound (w.heap.size+1) jump).run P X=.ok (.bool jump.isNone) (X.putObj (w.heap.size+1) (.loop (lrec fn a ps assign body w.heap.size (if jump.isNone then .ready else .done) jump))) /\
   (X.putObj (w.heap.size+1) (.loop (lrec fn a ps assign body w.heap.size (if jump.isNone then .ready else .done) jump))).heap[w.heap.size+1]? = some (.loop (lrec fn a ps assign body w.heap.size (if jump.isNone then .ready else .done) jump)) /\
   (X.putObj (w.heap.size+1) (.loop (lrec fn a ps assign body w.heap.size (if jump.isNone then .ready else .done) jump))).heap[w.heap.size]? = some (.deferred (some []))/\Kp X (X.putObj (w.heap.size+1) (.loop (lrec fn a ps assign body w.heap.size (if jump.isNone then .ready else .done) jump))) (fun i=>i=w.heap.size+1):=by
  intro jump X hX
  have hUl:w.heap.size+1<U.heap.size:=(Array.getElem?_eq_some_iff.1 ul).1
  have xl:=(hX.block _ hUl (fun h=>by have:=hS _ h;omega)).trans ul
  have xk:=(hX.block _ (by omega) (fun h=>by have:=hS _ h;omega)).trans uk
  refine⟨?_,World.putObj_heap_same (Array.getElem?_eq_some_iff.1 xl).1,(World.putObj_heap_other (by omega)).trans xk,putObj_self⟩
  have:=run_endRound (P:=P) jump xl
  rw[<- hbz] at this
  exact this
 rintro e a3 X hp
 rcases hp with ⟨rfl,q1,q2⟩|⟨rfl,q1,q2⟩
 ·obtain⟨r1,r2,r3,r4⟩:=leave none X q1
  refine⟨_,_,r1,.inl ⟨rfl,⟨hI _ _ _ q2 (r4.mono (fun i _ e=>by show w.heap.size<=i;omega)),r2,r3⟩,?_⟩⟩
  exact((hkp.of_nul.trans (hVU.mono (fun i _ e=>.inr e))).trans (q1.mono (fun i _ e=>.inl e))).trans (r4.mono (fun i _ e=>.inr e))
 ·obtain⟨r1,r2,r3,r4⟩:=leave (some .ret) X q1
  exact⟨_,_,r1,.inr ⟨rfl,hIx _ _ q2 (r4.mono (fun i _ e=>by show w.heap.size<=i;omega)),r2,r3⟩⟩
theorem wpIn_range_each (h1:1<=n) {gf:Nat} {lb:Array Value} (hg:a.eval g=.func (.func gf) #[] lb) (eg:∀args w,(callFunc gf args).run P w=.ok (.enter gf args) w)
  {encs:α->Array Value} (hps:∀x,(encs x).size=ps.size) (S:Nat->Prop) (hS:∀i,S i->i<w.heap.size) {N:Nat}
  (hseq:∀(J:Nat->World->Prop) (Jx:World->Prop) (W:World),Kp w W Nul->w.heap.size+2<=W.heap.size->(∀k W W',J k W->Kp W W' Nul->J k W')->(∀W W',Jx W->Kp W W' Nul->Jx W') ->
   (∀m k x W1,k<N->J k W1->YieldAt Fence.wide m P (w.heap.size+1) (encs x) W1 fun e W'=>(e=.returned (.bool true)/\J (k+1) W'/\Kp W1 W' (fun i=>S i∨i=w.heap.size+1))∨(e=.returned (.bool false)/\Jx W'))->J 0 W ->
   Calls P gf (#[.func (.yield (w.heap.size+1)) #[] #[]]++lb) W fun e W'=>(∃v,e=.returned v)/\(J N W'∨Jx W'))
  (I:Nat->World->Prop) (Ix:World->Prop) (hI:∀k W W',I k W->Kp W W' (fun i=>w.heap.size<=i)->I k W') (hIx:∀W W',Ix W->Kp W W' (fun i=>w.heap.size<=i)->Ix W') (h0:I 0 w)
  (hround:∀(l:Nat) (k:Nat) (x:α) (W:World) (K:Act->World->Prop),w.heap.size<=l->k<N->I k W->(∀a' W',Kp W W' Nul->(∀V,Kp W' V (fun i=>w.heap.size<=i)->body.wpIn (Fence.wide.inRound l) (n-1-1) P (fun e _ X=>(e=.normal/\Kp V X S/\I (k+1) X)∨(e=.ret/\Kp V X S/\Ix X)) a' V)->K a' W') ->
   assign.wpIn (Fence.wide.inRound l) (n-1-1) P (Exit.then K (fun _ _ _=>False)) { tmps:=(ps.zip (encs x)).foldl (fun t (p,v)=>t.setIfInBounds p v) a.tmps,defers:=[] } W)
  (hdone:∀(D:Nat) (W:World),w.heap.size<=D->I N W->W.heap[D]? = some (.deferred (some []))->Q .normal { a with defers:={ target:=.collected D,args:=#[] }::a.defers } W)
  (hstop:∀(D:Nat) (W:World),w.heap.size<=D->Ix W->W.heap[D]? = some (.deferred (some []))->Code.ret.wpIn Fence.wide n P Q { a with defers:={ target:=.collected D,args:=#[] }::a.defers } W) :
  (Code.rangeFunc g ps assign body).wpIn Fence.wide n P Q a w:=by
 refine wpIn_rangeFunc fun fn hfn=>?_
 obtain⟨W1,hW1⟩:∃W1,(w.alloc (.deferred (some []))).alloc (.loop (lrec fn a ps assign body w.heap.size .ready none))=W1:=⟨_,rfl⟩
 have l1:W1.heap[w.heap.size+1]? = some (.loop (lrec fn a ps assign body w.heap.size .ready none)):=by
  have:=World.alloc_heap_new (w.alloc (.deferred (some []))) (.loop (lrec fn a ps assign body w.heap.size .ready none))
  rw[World.size_alloc,hW1] at this
  exact this
 have k1:W1.heap[w.heap.size]? = some (.deferred (some [])):=by rw[<- hW1];exact(Below.heap_alloc _ _ _ (by simp)).trans (World.alloc_heap_new w _)
 have s1:W1.heap.size=w.heap.size+2:=by rw[<- hW1];simp
 have kW:Kp w W1 Nul:=by rw[<- hW1];exact((Kp.refl w Nul).alloc _).alloc _
 refine⟨w.heap.size+1,[{ target:=.collected w.heap.size,args:=#[] }],W1,{ target:=.fn (.func gf) lb,args:=#[.func (.yield (w.heap.size+1)) #[] #[]] },W1,gf,#[.func (.yield (w.heap.size+1)) #[] #[]]++lb,W1,?_,?_,fun f' _=>trivial,?_,fun _=>h1,?_⟩
 ·rw[<- hW1];exact run_enterLoop_outer _ _ _ _ _
 ·simp only[resolve,hg]
  simp[go_sem]
 ·simp[invoke,go_sem,eg]
 ·have hkeep:∀ {A B:World} {o:Obj} {i:Nat},Kp A B Nul->A.heap[i]? = some o->B.heap[i]? = some o:=fun h e=>(h.block _ (Array.getElem?_eq_some_iff.1 e).1 (fun x=>x)).trans e
  refine callsIn_wide.2 ((hseq
   (fun k W=>I k W/\W.heap[w.heap.size+1]? = some (.loop (lrec fn a ps assign body w.heap.size .ready none))/\W.heap[w.heap.size]? = some (.deferred (some [])))
   (fun W=>Ix W/\W.heap[w.heap.size+1]? = some (.loop (lrec fn a ps assign body w.heap.size .done (some .ret)))/\W.heap[w.heap.size]? = some (.deferred (some [])))
   W1 kW (by omega)
   (fun k A B h hk=>⟨hI k A B h.1 hk.of_nul,hkeep hk h.2.1,hkeep hk h.2.2⟩)
   (fun A B h hk=>⟨hIx A B h.1 hk.of_nul,hkeep hk h.2.1,hkeep hk h.2.2⟩)
   (fun m k x W hkN h=>by
    obtain⟨fn',tms,asg,bo,y1,y2⟩:=round_each (n:=n) (P:=P) hfn hps S hS I Ix hI hIx hround k x W hkN h.1 h.2.1 h.2.2
    exact⟨fn',tms,asg,bo,y1,roundIn_any y2⟩)
   ⟨hI 0 w W1 h0 kW.of_nul,l1,k1⟩).mono ?_)
  rintro e W2 ⟨⟨v,rfl⟩,(⟨hi,hl,hk⟩|⟨hi,hl,hk⟩)⟩
  ·exact⟨none,_,run_endLoop (P:=P) hl (by simp[lrec]),hdone _ _ (Nat.le_refl _) (hI _ _ _ hi (putObj_self.mono (fun i _ e=>by show w.heap.size<=i;omega))) ((World.putObj_heap_other (by omega)).trans hk)⟩
  ·exact⟨some .ret,_,run_endLoop (P:=P) hl (by simp[lrec]),hstop _ _ (Nat.le_refl _) (hIx _ _ hi (putObj_self.mono (fun i _ e=>by show w.heap.size<=i;omega))) ((World.putObj_heap_other (by omega)).trans hk)⟩
end
end Go.Proofs.YtecjfnkakodebaaGreatDoor
namespace Go.Proofs.YtecjfnkakodebaaGreatDoor
open Go.RowKit Go.Shelf
attribute [local go_sem] Oper.semAt_some
theorem goOver_any (l NN:Nat) (S:Nat->Prop) (J:Nat->World->Prop) (Jx:World->Prop) (n₀:Nat) (hS:∀i,S i->i<n₀) (hJ:∀k W W',J k W->Kp W W' Nul->J k W') (hJx:∀W W',Jx W->Kp W W' Nul->Jx W')
  (hY:∀m k (x:Hd) sl W1,k<NN->J k W1->YieldAt Fence.wide m Tryz.prog l #[x.val sl] W1 fun e W'=>(e=.returned (.bool true)/\J (k+1) W'/\Kp W1 W' S)∨(e=.returned (.bool false)/\Jx W'))
  (F:Nat->Prop) (hF:∀b,F b->¬S b) (N:Nat):∀(t:Nd) (sl:Value) (k:Nat) (W:World),t.size<=N->k+t.size<=NN->n₀<=W.heap.size->NdIn W F sl t->J k W ->
  Calls Tryz.prog 110 #[t.hd.val sl,.func (.yield l) #[] #[]] W fun e W'=>(e=.returned (.bool true)/\J (k+t.size) W'/\Kp W W' S)∨(e=.returned (.bool false)/\Jx W'):=by
 induction N with
 | zero=>intro t sl k W h;have:=size_pos t;omega
 | succ N ih=>
  intro t sl k W hN hNN hW hin hj
  obtain⟨hd,ts⟩:=t
  rw[NdIn] at hin
  obtain⟨a,c,rfl,h2,h3,h4⟩:=hin
  have hsz:Hid ((Nd.mk hd ts).size=1+sizeL ts):=by show _=_;rw[Nd.size]
  have HN:Hid ((Nd.mk hd ts).size<=N+1):=hN
  have HNN:Hid (k+(Nd.mk hd ts).size<=NN):=hNN
  have hkNN:k<NN:=by have:=size_pos (Nd.mk hd ts);omega
  have IH:Hid (∀(t:Nd) (sl:Value) (k:Nat) (W:World),t.size<=N->k+t.size<=NN->n₀<=W.heap.size->NdIn W F sl t->J k W ->
   Calls Tryz.prog 110 #[t.hd.val sl,.func (.yield l) #[] #[]] W fun e W'=>(e=.returned (.bool true)/\J (k+t.size) W'/\Kp W W' S)∨(e=.returned (.bool false)/\Jx W')):=ih
  have HS:Hid (∀i,S i->i<n₀):=hS
  have HJ:Hid (∀k W W',J k W->Kp W W' Nul->J k W'):=hJ
  have HJx:Hid (∀W W',Jx W->Kp W W' Nul->Jx W'):=hJx
  have HF:Hid (∀b,F b->¬S b):=hF
  have HW:Hid (n₀<=W.heap.size):=hW
  have hlen:ts.length<=9223372036854775807:=by unfold maxLen at h3;omega
  have H4:Hid ((ts=[]/\(c=0∨a≠none))∨∃b o,a=some ⟨b,o,none⟩/\F b/\NdsIn W F b o ts):=h4
  clear ih hN hNN hS hJ hJx hF hW h4 h2 h3
  generalize hn:ts.length=n at *
  have HL:Hid (ts.length=n):=hn
  have HLEN:Hid (n<=9223372036854775807):=hlen
  clear hn hlen
  generalize hSS:(Nd.mk hd ts).size=SZ at *
  simp only[Nd.hd]
  obtain⟨W0,hW0⟩:∃W0,W.alloc (.cells #[.int .i64 hd.k,.int .i64 hd.o,.float .f64 hd.x,.string hd.s,.bool hd.b,.int .i64 hd.f,.int .i64 hd.c1,.int .i64 hd.r1,.bool hd.p1,.bool hd.q1,.int .i64 hd.c2,.int .i64 hd.r2,.bool hd.p2,.bool hd.q2,.slice a n c] 48)=W0:=⟨_,rfl⟩
  have K0:Kp W W0 Nul:=by rw[<- hW0];exact(Kp.refl W Nul).alloc _
  have B0:Blk W0 W.heap.size (hd.cells (.slice a n c)) 48:=by rw[<- hW0];exact Blk.new W (hd.cells (.slice a n c)) _
  obtain⟨fn,tms,asg,bod,hy,hR⟩:=hY 7 k hd (.slice a n c) W0 hkNN (HJ.out k W W0 hj K0)
  have HY:Hid (RoundIn Fence.wide 7 Tryz.prog l fn tms asg bod W0 _):=hR
  have HB0:Hid (Blk W0 W.heap.size (hd.cells (.slice a n c)) 48):=B0
  have HK0:Hid (Kp W W0 Nul):=K0
  have HW0:Hid (W.alloc (.cells #[.int .i64 hd.k,.int .i64 hd.o,.float .f64 hd.x,.string hd.s,.bool hd.b,.int .i64 hd.f,.int .i64 hd.c1,.int .i64 hd.r1,.bool hd.p1,.bool hd.q1,.int .i64 hd.c2,.int .i64 hd.r2,.bool hd.p2,.bool hd.q2,.slice a n c] 48)=W0):=hW0
  have HR0:Hid ((W.alloc (.cells #[.int .i64 hd.k,.int .i64 hd.o,.float .f64 hd.x,.string hd.s,.bool hd.b,.int .i64 hd.f,.int .i64 hd.c1,.int .i64 hd.r1,.bool hd.p1,.bool hd.q1,.int .i64 hd.c2,.int .i64 hd.r2,.bool hd.p2,.bool hd.q2,.slice a n c] 48)).rangeAt W.heap.size 0 (hd.cells (.slice a n c))):=by
   show World.rangeAt _ _ _ _
   rw[hW0]
   intro j v hj
   rw[cell_of_row W0 _ _ _ _ _ B0,Nat.zero_add]
   simpa using hj
  clear hR hW0 K0 B0 hj hY hkNN
  refine(callsIn_wide (n:=8)).1 ?_
  refine callsIn_of_wp Tryz.func110 rfl trivial ?_ rfl
  simp only[Tryz.ntmps110,List.size_toArray,List.length_cons,List.length_nil,Nat.reduceAdd,Nat.reduceSub,Array.replicate_succ,Array.replicate_zero,List.push_toArray,List.append_toArray,List.nil_append,List.cons_append]
  gi_wp2_with (first|(refine loadIn_node rfl (.tmp 2) rfl W.heap.size 0 rfl (hd.cells (.slice a n c)) HR0.out rfl ?_)|fail)
  rw[HW0.out]
  have hy':Sem.run Tryz.prog (Instr.yield l #[Value.agg (hd.cells (.slice a n c)).toArray]) W0=_:=hy
  rw[hy',Oper.uponIn_round]
  clear hy hy' HR0
  refine⟨fun _=>by decide,HY.out.mono ?_⟩
  clear HY
  rintro e w1 (⟨rfl,hj1,hk1⟩|⟨rfl,hx1⟩)
  case inr=>
   have HX1:Hid (Jx w1):=hx1
   clear hx1
   gi_wp2_with (fail)
   refine bodyPost_ret (results_tmp rfl _ _ _) rfl ?_
   exact .inr ⟨rfl,HX1.out⟩
  have HJ1:Hid (J (k+1) w1):=hj1
  have HK1:Hid (Kp W0 w1 S):=hk1
  have HWlt:Hid (n₀<=w1.heap.size):=Nat.le_trans HW.out (Nat.le_trans HK0.out.size hk1.size)
  have HB1:Hid (Blk w1 W.heap.size (hd.cells (.slice a n c)) 48):=HB0.out.kp hk1 (fun h=>by have:=HS.out _ h;have:=HW.out;omega)
  have HKW:Hid (Kp W w1 S):=HK0.out.of_nul.trans hk1
  have c14:w1.cell? ⟨W.heap.size,14,none⟩=some (.slice a n c):=HB1.out.cell rfl
  clear hj1 hk1
  gi_wp2_with (fail)
  clear c14
  gi_loopw [14] (fun i wr=>∃q:Nat,q<=n/\i=.int .i64 q/\J (k+1+sizeL (ts.take q)) wr/\Kp w1 wr S) (fun i _=>n-(intOf i).toNat)
  case atStart=>exact⟨0,Nat.zero_le _,rfl,by simpa [sizeL] using HJ1.out,Kp.refl _ _⟩
  case round=>
   obtain⟨q,hq,rfl,hjq,hkq⟩:=hrel
   have JQ:Hid (J (k+1+sizeL (ts.take q)) wr):=hjq
   have KQ:Hid (Kp w1 wr S):=hkq
   clear hjq hkq
   by_cases hlt:q<n
   ·have hqt:q<ts.length:=by rw[HL.out];exact hlt
    obtain⟨b,o,rfl,hFb,hns⟩:∃b o,a=some ⟨b,o,none⟩/\F b/\NdsIn W F b o ts:=by
     rcases H4.out with h|h
     ·rw[h.1] at hqt;simp at hqt
     ·exact h
    obtain⟨s1,hr,hni⟩:=hns.get q hqt
    have hkw:Kp W wr S:=HKW.out.trans KQ.out
    have HR:Hid (wr.rangeAt b (o+q*15) ((ts[q]).hd.cells s1)):=rangeAt_block hr (hkw.block b (rangeAt_lt hr) (HF.out b hFb))
    have hni':=hni.kp hkw HF.out
    have O1:Hid (s1.oneCell'=true):=hni.one
    have hs1:=size_get ts q hqt
    have hs2:=sizeL_take ts q hqt
    have hs3:=sizeL_take_le ts (q+1)
    have HC:Hid (∀wq,Kp wr wq Nul->Calls Tryz.prog 110 #[(ts[q]).hd.val s1,.func (.yield l) #[] #[]] wq fun e W'=>(e=.returned (.bool true)/\J (k+1+sizeL (ts.take q)+(ts[q]).size) W'/\Kp wq W' S)∨(e=.returned (.bool false)/\Jx W')):=fun wq hq=>IH.out ts[q] s1 _ wq (by have:=HN.out;have:=hsz.out;omega) (by have:=HNN.out;have:=hsz.out;omega) (Nat.le_trans HWlt.out (Nat.le_trans KQ.out.size hq.size)) (hni'.kp hq (fun _ _ x=>x)) (HJ.out _ _ _ JQ.out hq)
    have hA:Hid (sizeL (ts.take (q+1))=sizeL (ts.take q)+(ts[q]).size):=sizeL_take ts q hqt
    clear hs1 hs2 hs3 hni hni' hr hns hkw
    generalize (ts[q]).size=z at *
    generalize (ts[q]).hd=hh at *
    have hkb:(q:Int)+1<=9223372036854775807:=by have:=HLEN.out;omega
    have hq0:(0:Int)<=(q:Int):=by omega
    have hqn:(q:Int)<(n:Int):=by omega
    have HRn:Hid ((wr.alloc (.cells (hh.cells s1).toArray 48)).rangeAt wr.heap.size 0 (hh.cells s1)):=by
     show World.rangeAt _ _ _ _
     intro j v hj
     rw[cell_of_row _ _ _ _ _ _ (heap_alloc_new _ _),Nat.zero_add]
     simpa using hj
    gi_wp2_with (first|(refine loadIn_node rfl (.tmp 16) rfl b (o+q*15) rfl (hh.cells s1) HR.out rfl ?_)|(refine storeIn_new rfl (.tmp 6) (.tmp 17) rfl _ _ _ _ (by first|rfl|simp) rfl rfl rfl rfl (hh.one O1.out) ?_)|(refine loadIn_node rfl (.tmp 6) rfl wr.heap.size 0 rfl (hh.cells s1) HRn.out rfl ?_)|fail)
    refine⟨trivial,(callsIn_wide.2 (HC.out _ ((Kp.refl _ _).alloc _))).mono ?_⟩
    rintro e w2 (⟨rfl,hj2,hk2⟩|⟨rfl,hx2⟩)
    ·have HJ2:Hid (J (k+1+sizeL (ts.take (q+1))) w2):=by show J _ _;rw[hA.out,<- Nat.add_assoc];exact hj2
     have HK2:Hid (Kp w1 w2 S):=(KQ.out.alloc _).trans hk2
     clear hj2 hk2 HC HR HRn
     gi_wp2_with (fail)
     exact⟨⟨q+1,by omega,by go_num,HJ2.out,HK2.out⟩,by simp only[intOf];omega⟩
    ·have HX2:Hid (Jx w2):=hx2
     clear hx2 HC HR HRn
     gi_wp2_with (fail)
     refine bodyPost_ret (results_tmp rfl _ _ _) rfl ?_
     exact .inr ⟨rfl,HX2.out⟩
   ·have hqe:q=n:=by omega
    subst hqe
    have hqn:¬((q:Int)<(q:Int)):=by omega
    have JE:Hid (J (k+SZ) wr):=by
     have:=JQ.out
     rw[<- HL.out,List.take_length] at this
     show J _ _
     rw[hsz.out,<- Nat.add_assoc];exact this
    gi_wp2_with (fail)
    refine bodyPost_ret (results_tmp rfl _ _ _) rfl ?_
    exact .inl ⟨rfl,JE.out,HKW.out.trans KQ.out⟩
theorem each1_at (l NN:Nat) (S:Nat->Prop) (J:Nat->World->Prop) (Jx:World->Prop) (n₀:Nat) (hS:∀i,S i->i<n₀) (hJ:∀k W W',J k W->Kp W W' Nul->J k W') (hJx:∀W W',Jx W->Kp W W' Nul->Jx W')
  (hY:∀m k (x:Hd) sl W1,k<NN->J k W1->YieldAt Fence.wide m Tryz.prog l #[x.val sl] W1 fun e W'=>(e=.returned (.bool true)/\J (k+1) W'/\Kp W1 W' S)∨(e=.returned (.bool false)/\Jx W'))
  (F:Nat->Prop) (hF:∀b,F b->¬S b) (t:Nd) (sl:Value) (k nb:Nat) (W:World) (hNN:k+t.size<=NN) (hW:n₀<=W.heap.size) (hin:NdIn W F sl t) (hj:J k W) (hb:Blk W nb (t.hd.cells sl) 48) :
  Calls Tryz.prog 109 #[.func (.yield l) #[] #[],.pointer (some ⟨nb,0,none⟩)] W fun e W'=>(∃v,e=.returned v)/\(J (k+t.size) W'∨Jx W'):=by
 have HC:Hid (Calls Tryz.prog 110 #[t.hd.val sl,.func (.yield l) #[] #[]] W fun e W'=>(e=.returned (.bool true)/\J (k+t.size) W'/\Kp W W' S)∨(e=.returned (.bool false)/\Jx W')):=goOver_any l NN S J Jx n₀ hS hJ hJx hY F hF t.size t sl k W (Nat.le_refl _) hNN hW hin hj
 have HB:Hid (W.heap[nb]? = some (.cells (t.hd.cells sl).toArray 48 (0,0))):=hb
 clear hS hJ hJx hY hF hW hin hj hb hNN
 generalize t.size=z at *
 generalize t.hd=h at *
 go_enter Tryz.func109,Tryz.ntmps109
 go_wp2_with (first|(refine load_node_law rfl (.tmp 1) rfl nb rfl (h.cells sl).toArray HB.out rfl ?_)|fail)
 refine HC.out.mono ?_
 rintro e w1 (⟨rfl,hj1,_⟩|⟨rfl,hx1⟩)
 ·have HJ1:Hid (J (k+z) w1):=hj1
  clear hj1
  go_wp2_with fail
  go_end0
  exact⟨⟨_,rfl⟩,.inl HJ1.out⟩
 ·have HJ1:Hid (Jx w1):=hx1
  clear hx1
  go_wp2_with fail
  go_end0
  exact⟨⟨_,rfl⟩,.inr HJ1.out⟩
theorem each_at (h:Hd) (sl:Value) (w:World) :
  Calls Tryz.prog 68 #[h.val sl] w fun e w'=>e=.returned (.func (.func 109) #[] #[.pointer (some ⟨w.heap.size,0,none⟩)])/\w'=w.alloc (.cells (h.cells sl).toArray 48):=by
 go_enter Tryz.func68,Tryz.ntmps68
 go_wp2_with fail
 go_ret
 exact⟨rfl,rfl⟩
end Go.Proofs.YtecjfnkakodebaaGreatDoor
namespace Go.Proofs.YtecjfnkakodebaaGreatDoor
open Go.RowKit Go.Shelf
attribute [local go_sem] Oper.semAt_some
theorem results_bool {fn:Func} {p:Tmp} (h:fn.results=#[.cell p 4]) {tmps:Array Value} {b:Nat} {v:Bool} {w:World} (hp:tmps.getD p undef=.pointer (some ⟨b,0,none⟩)) (hb:Blk w b [.bool v] 4) :
  (results fn tmps).run Tryz.prog w=.ok (.bool v) w:=by
 have hc:w.cell? ⟨b,0,none⟩=some (.bool v):=hb.cell rfl
 rw[results_cell1 h,hp]
 simp[go_sem,asAddr,hc]
theorem tooMany_at (t:Nd) (sl:Value) (F:Nat->Prop) (w:World) (hin:NdIn w F sl t) :
  Calls Tryz.prog 119 #[t.hd.val sl] w fun e w'=>e=.returned (.bool (decide (256<t.size)))/\Kp w w' Nul:=by
 have hin0:NdIn w (fun b=>b<w.heap.size) sl t:=hin.mono (fun b _ hlt=>⟨rfl,hlt⟩)
 have HE:Hid (∀w,Calls Tryz.prog 68 #[t.hd.val sl] w fun e w'=>e=.returned (.func (.func 109) #[] #[.pointer (some ⟨w.heap.size,0,none⟩)])/\w'=w.alloc (.cells (t.hd.cells sl).toArray 48)):=each_at t.hd sl
 have HIN:Hid (NdIn w (fun b=>b<w.heap.size) sl t):=hin0
 clear hin hin0
 refine(callsIn_wide (n:=12)).1 ?_
 refine callsIn_of_wp_marks Tryz.func119 rfl trivial ?_ rfl
 simp only[Tryz.ntmps119,List.size_toArray,List.length_cons,List.length_nil,Nat.reduceAdd,Nat.reduceSub,Array.replicate_succ,Array.replicate_zero,List.push_toArray,List.append_toArray,List.nil_append,List.cons_append]
 gi_wp2_with (fail)
 refine⟨trivial,(callsIn_wide.2 (HE.out _)).mono ?_⟩
 rintro e w1 ⟨rfl,hw1⟩
 obtain⟨W2,hW2⟩:∃W2,(((w.alloc (.cells (t.hd.cells sl).toArray 48)).alloc (.cells #[.bool false] 4)).alloc (.cells #[.int .i64 0] 3))=W2:=⟨_,rfl⟩
 have hw1':w1=W2.alloc (.cells (t.hd.cells sl).toArray 48):=by rw[<- hW2];exact hw1
 have z2:W2.heap.size=w.heap.size+3:=by rw[<- hW2];simp
 have z1:w1.heap.size=w.heap.size+4:=by rw[hw1'];simp[z2]
 have k2:Kp w W2 Nul:=by rw[<- hW2];exact(((Kp.refl w Nul).alloc _).alloc _).alloc _
 have k1:Kp w w1 Nul:=by rw[hw1'];exact k2.alloc _
 have bc:Blk w1 (w.heap.size+1+1) [.int .i64 0] 3:=by
  have:=Blk.new ((w.alloc (.cells (t.hd.cells sl).toArray 48)).alloc (.cells #[.bool false] 4)) [.int .i64 0] 3
  rw[World.size_alloc,World.size_alloc] at this
  rw[hw1',<- hW2];exact this.alloc _
 have br:Blk w1 (w.heap.size+1) [.bool false] 4:=by
  have:=Blk.new (w.alloc (.cells (t.hd.cells sl).toArray 48)) [.bool false] 4
  rw[World.size_alloc] at this
  rw[hw1',<- hW2];exact(this.alloc _).alloc _
 have bn:Blk w1 (w.heap.size+3) (t.hd.cells sl) 48:=by
  have:=Blk.new W2 (t.hd.cells sl) 48
  rw[z2] at this
  rw[hw1'];exact this
 clear hw1 hw1' HE
 gi_wp2_with (fail)
 have hf:∀ {W W':World},Kp W W' (fun i=>w1.heap.size<=i)->∀ {b:Nat} {cs:List Value} {ty:TypeId},b<w1.heap.size->Blk W b cs ty->Blk W' b cs ty:=fun hk _ _ _ hb h=>h.kp hk (by omega)
 generalize hact:Act.mk _ _=a0
 refine wpIn_range_each (α:=Hd×Value) (N:=t.size) (by decide) (gf:=109) (lb:=#[.pointer (some ⟨w.heap.size+3,0,none⟩)]) (by rw[<- hact];rfl) (enters_of Tryz.func109 (by kernel_rfl) rfl)
  (encs:=fun x=>#[x.1.val x.2]) (fun _=>rfl) (fun i=>i=w.heap.size+1+1∨i=w.heap.size+1) (fun i h=>by rcases h with h|h <;> omega)
  ?hseq
  (fun k W=>Blk W (w.heap.size+1+1) [.int .i64 k] 3/\Blk W (w.heap.size+1) [.bool false] 4/\k<=256/\Kp w W Nul)
  (fun W=>256<t.size/\Blk W (w.heap.size+1) [.bool true] 4/\Kp w W Nul)
  ?hI ?hIx ⟨bc,br,by decide,k1⟩ ?hround ?hdone ?hstop
 case hseq=>
  intro J Jx W hk hsz hJ hJx hY h0
  have:=each1_at (w1.heap.size+1) t.size (fun i=>(i=w.heap.size+1+1∨i=w.heap.size+1)∨i=w1.heap.size+1) J Jx (w1.heap.size+2) (fun i h=>by rcases h with (h|h)|h <;> omega) hJ hJx (fun m k x sl W1 hk hj=>hY m k (x,sl) W1 hk hj)
   (fun b=>b<w.heap.size) (fun b hb h=>by rcases h with (h|h)|h <;> omega) t sl 0 (w.heap.size+3) W (by omega) hsz ((HIN.out.kp k1 (fun _ _ x=>x)).kp hk (fun _ _ x=>x)) h0 (bn.kp hk (fun x=>x))
  rw[Nat.zero_add] at this
  exact this
 case hI=>
  rintro k W W' ⟨h1,h2,h3,h4⟩ hk
  exact⟨hf hk (by omega) h1,hf hk (by omega) h2,h3,h4.trans' hk (fun i hi e=>by have:w1.heap.size<=i:=e;omega)⟩
 case hIx=>
  rintro W W' ⟨h1,h2,h4⟩ hk
  exact⟨h1,hf hk (by omega) h2,h4.trans' hk (fun i hi e=>by have:w1.heap.size<=i:=e;omega)⟩
 case hround=>
  subst hact
  rintro l k x W K hl hkN ⟨h1,h2,h3,h4⟩ hK
  simp only[List.zip_toArray,List.zip_cons_cons,List.zip_nil_right,List.foldl_toArray',List.foldl_cons,List.foldl_nil]
  gi_wp2_with (fail)
  refine hK _ _ (Kp.refl _ _) fun V hV=>?_
  have c1:=hf hV (by omega) h1
  have c2:=hf hV (by omega) h2
  have x1:V.cell? ⟨w.heap.size+1+1,0,none⟩=some (.int .i64 k):=c1.cell rfl
  have x2:=c1.froz 0
  have x3:=c2.froz 0
  have x4:V.cell? ⟨w.heap.size+1,0,none⟩=some (.bool false):=c2.cell rfl
  have C1:Hid (Blk V (w.heap.size+1+1) [.int .i64 k] 3):=c1
  have C2:Hid (Blk V (w.heap.size+1) [.bool false] 4):=c2
  have H4:Hid (Kp w V Nul):=h4.trans' hV (fun i hi e=>by have:w1.heap.size<=i:=e;omega)
  have HKN:Hid (k<t.size):=hkN
  clear c1 c2 h4 hV h1 h2 hK bc br bn k1 k2 hf z1 z2 hW2 hkN HIN
  by_cases hk6:k<256
  ·have j1:¬(256:Int)<(k:Int)+1:=by omega
   have j2:(k:Int)+1<=9223372036854775807:=by omega
   gi_wp2_with (fail)
   exact⟨(Kp.refl V _).setCell _ _ (.inr (.inl rfl)),C1.out.set 0 _,C2.out.other ⟨w.heap.size+1+1,0,none⟩ _ (by show w.heap.size+1≠w.heap.size+1+1;omega),by omega,H4.out.setCell _ _ (.inl (by show w.heap.size<=w.heap.size+1+1;omega))⟩
  ·have hk6':k=256:=by omega
   subst hk6'
   have j1:(256:Int)<((256:Nat):Int)+1:=by omega
   gi_wp2_with (fail)
   refine⟨((Kp.refl V _).setCell _ _ (.inr (.inl rfl))).setCell _ _ (.inr (.inr rfl)),HKN.out,?_,(H4.out.setCell _ _ (.inl (by show w.heap.size<=w.heap.size+1+1;omega))).setCell _ _ (.inl (by show w.heap.size<=w.heap.size+1;omega))⟩
   exact(C2.out.other ⟨w.heap.size+1+1,0,none⟩ _ (by show w.heap.size+1≠w.heap.size+1+1;omega)).set 0 (.bool true)
 case hdone=>
  subst hact
  rintro D W hD ⟨h1,h2,h3,h4⟩ hK
  have H2:Hid (Blk W (w.heap.size+1) [.bool false] 4):=h2
  have H4:Hid (Kp w W Nul):=h4
  have HD:Hid (w1.heap.size<=D):=hD
  have HX:Hid (W.heap[D]? = some (.deferred (some []))):=hK
  have x2:=h2.froz 0
  have x1:W.cell? ⟨w.heap.size+1,0,none⟩=some (.bool false):=h2.cell rfl
  have hz:Hid (w.heap.size+4<=D):=by show _<=_;omega
  have hN:Hid (decide (256<t.size)=false):=by show _=_;simp;omega
  clear h1 h2 h3 h4 hD hK bc br bn k1 k2 hf z1 z2 hW2 HIN
  gi_wp2_with (fail)
  have HB:Blk (W.setCell ⟨w.heap.size+1,0,none⟩ (.bool false)) (w.heap.size+1) [.bool false] 4:=H2.out.set 0 _
  have HY:(W.setCell ⟨w.heap.size+1,0,none⟩ (.bool false)).heap[D]? = some (.deferred (some [])):=(heap_setCell_other _ _ _ _ (by show D≠w.heap.size+1;have:=hz.out;omega)).trans HX.out
  refine⟨by simp,.inl ⟨_,_,rfl,run_takeDeferred HY,?_⟩⟩
  refine⟨_,results_bool rfl rfl (HB.kp putObj_self (by show ¬w.heap.size+1=D;have:=hz.out;omega)),by rw[hN.out],?_⟩
  exact putObj_kp (H4.out.setCell _ _ (.inl (by show w.heap.size<=w.heap.size+1;omega))) (by have:=hz.out;omega)
 case hstop=>
  subst hact
  rintro D W hD ⟨h1,h2,h4⟩ hK
  have H2:Hid (Blk W (w.heap.size+1) [.bool true] 4):=h2
  have H4:Hid (Kp w W Nul):=h4
  have HX:Hid (W.heap[D]? = some (.deferred (some []))):=hK
  have hz:Hid (w.heap.size+4<=D):=by show _<=_;omega
  have hN:Hid (decide (256<t.size)=true):=by show _=_;simp;omega
  clear h1 h2 h4 hD hK bc br bn k1 k2 hf z1 z2 hW2 HIN
  gi_wp2_with (fail)
  refine⟨by simp,.inl ⟨_,_,rfl,run_takeDeferred HX.out,?_⟩⟩
  refine⟨_,results_bool rfl rfl (H2.out.kp putObj_self (by show ¬w.heap.size+1=D;have:=hz.out;omega)),by rw[hN.out],?_⟩
  exact putObj_kp H4.out (by have:=hz.out;omega)
end Go.Proofs.YtecjfnkakodebaaGreatDoor
namespace Go.Proofs.YtecjfnkakodebaaGreatDoor
open Go.RowKit Go.Shelf
attribute [local go_sem] Oper.semAt_some
def More (Z Z':Nat->Prop) (W:World):Prop:=∀i,Z' i->Z i∨W.heap.size<=i
section
variable {n:Nat} {P:Program} {α:Type} {g:Operand} {ps:Array Tmp} {assign body:Code} {Q:Exit->Act->World->Prop} {a:Act} {w:World}
theorem round_own {encs:α->Array Value} {fn:FuncId} {N:Nat} (hfn:Fence.wide.fn fn) (hps:∀x,(encs x).size=ps.size) (T:Nat->α->(Nat->Prop)->World->Prop)
  (I:Nat->(Nat->Prop)->World->Prop) (hZ:∀k Z W,I k Z W->¬Z w.heap.size/\¬Z (w.heap.size+1)) (hI:∀k Z W W',I k Z W->Kp W W' (fun i=>i=w.heap.size∨i=w.heap.size+1)->I k Z W')
  (hround:∀(k:Nat) (x:α) (Z:Nat->Prop) (W:World) (K:Act->World->Prop),k<N->w.heap.size+2<=W.heap.size->I k Z W->T k x Z W->(∀a' W',Kp W W' Nul->(∀V,Kp W' V (fun i=>i=w.heap.size+1)->body.wpIn (Fence.wide.inRound (w.heap.size+1)) (n-1-1) P (fun e _ X=>e=.normal/\Kp V X Z/\∃Z',I (k+1) Z' X/\More Z Z' W) a' V)->K a' W') ->
   assign.wpIn (Fence.wide.inRound (w.heap.size+1)) (n-1-1) P (Exit.then K (fun _ _ _=>False)) { tmps:=(ps.zip (encs x)).foldl (fun t (p,v)=>t.setIfInBounds p v) a.tmps,defers:=[] } W)
  (k:Nat) (x:α) (Z:Nat->Prop) (W:World) (hkN:k<N) (hi:I k Z W) (ht:T k x Z W) (hl:W.heap[w.heap.size+1]? = some (.loop (lrec fn a ps assign body w.heap.size .ready none))) (hk:W.heap[w.heap.size]? = some (.deferred (some []))) :
  YieldAt Fence.wide (n-1-1) P (w.heap.size+1) (encs x) W fun e W'=>
   e=.returned (.bool true)/\(∃Z',(I (k+1) Z' W'/\W'.heap[w.heap.size+1]? = some (.loop (lrec fn a ps assign body w.heap.size .ready none))/\W'.heap[w.heap.size]? = some (.deferred (some [])))/\More Z Z' W)/\Kp W W' (fun i=>Z i∨i=w.heap.size+1):=by
 have hy:=run_yield (P:=P) (args:=encs x) hl (hps x)
 have hWl:w.heap.size+1<W.heap.size:=(Array.getElem?_eq_some_iff.1 hl).1
 refine⟨fn,_,assign,body,hy,roundIn_of_wpIn hfn (hround k x Z W _ hkN hWl hi ht ?_)⟩
 clear hy
 intro a' V hkp hbody
 have vl:=(hkp.block _ hWl (fun x=>x)).trans hl
 have vk:=(hkp.block _ (by omega) (fun x=>x)).trans hk
 have hlt:w.heap.size+1<V.heap.size:=(Array.getElem?_eq_some_iff.1 vl).1
 refine⟨_,run_beginRound vl rfl,?_⟩
 obtain⟨bz,hbz⟩:∃bz:Loop,{ lrec fn a ps assign body w.heap.size .ready none with state:=.busy }=bz:=⟨_,rfl⟩
 obtain⟨U,hU⟩:∃U,V.putObj (w.heap.size+1) (.loop bz)=U:=⟨_,rfl⟩
 rw[hbz,hU]
 have ul:U.heap[w.heap.size+1]? = some (.loop bz):=by rw[<- hU];exact World.putObj_heap_same hlt
 have uk:U.heap[w.heap.size]? = some (.deferred (some [])):=by rw[<- hU];exact(World.putObj_heap_other (by omega)).trans vk
 have hVU:Kp V U (fun i=>i=w.heap.size+1):=by rw[<- hU];exact putObj_self
 refine wpIn_mono (hbody U hVU) ?_
 have leave:∀(X:World),Kp U X Z ->
   (Instr.endRound (w.heap.size+1) none).run P X=.ok (.bool true) (X.putObj (w.heap.size+1) (.loop (lrec fn a ps assign body w.heap.size .ready none))) /\
   (X.putObj (w.heap.size+1) (.loop (lrec fn a ps assign body w.heap.size .ready none))).heap[w.heap.size+1]? = some (.loop (lrec fn a ps assign body w.heap.size .ready none)) /\
   (X.putObj (w.heap.size+1) (.loop (lrec fn a ps assign body w.heap.size .ready none))).heap[w.heap.size]? = some (.deferred (some []))/\Kp X (X.putObj (w.heap.size+1) (.loop (lrec fn a ps assign body w.heap.size .ready none))) (fun i=>i=w.heap.size+1):=by
  intro X hX
  have hUl:w.heap.size+1<U.heap.size:=(Array.getElem?_eq_some_iff.1 ul).1
  have xl:=(hX.block _ hUl (hZ _ _ _ hi).2).trans ul
  have xk:=(hX.block _ (by omega) (hZ _ _ _ hi).1).trans uk
  refine⟨?_,World.putObj_heap_same (Array.getElem?_eq_some_iff.1 xl).1,(World.putObj_heap_other (by omega)).trans xk,putObj_self⟩
  have:=run_endRound (P:=P) none xl
  rw[<- hbz] at this
  exact this
 rintro e a3 X ⟨rfl,q1,Z',q2,q3⟩
 obtain⟨r1,r2,r3,r4⟩:=leave X q1
 refine⟨_,_,r1,rfl,⟨Z',⟨hI _ _ _ _ q2 (r4.mono (fun i _ e=>.inr e)),r2,r3⟩,q3⟩,?_⟩
 exact((hkp.of_nul.trans (hVU.mono (fun i _ e=>.inr e))).trans (q1.mono (fun i _ e=>.inl e))).trans (r4.mono (fun i _ e=>.inr e))
def SeqOwn (P:Program) (gf:Nat) (lb:Array Value) (encs:α->Array Value) (T:Nat->α->(Nat->Prop)->World->Prop) (N:Nat) (S:Nat->Prop) (w:World):Prop:=
 ∀(J:Nat->(Nat->Prop)->World->Prop) (Z:Nat->Prop) (W:World),Kp w W Nul->w.heap.size+2<=W.heap.size->(∀k Z W W',J k Z W->Kp W W' Nul->J k Z W')->(∀k Z W,J k Z W->(∀i,Z i->i<W.heap.size)/\∀i,i<w.heap.size->Z i->S i) ->
   (∀m k x Z W1,k<N->J k Z W1->T k x Z W1->YieldAt Fence.wide m P (w.heap.size+1) (encs x) W1 fun e W'=>e=.returned (.bool true)/\(∃Z',J (k+1) Z' W'/\More Z Z' W1)/\Kp W1 W' (fun i=>Z i∨i=w.heap.size+1))->J 0 Z W ->
   Calls P gf (#[.func (.yield (w.heap.size+1)) #[] #[]]++lb) W fun e W'=>(∃v,e=.returned v)/\∃Z',J N Z' W'
theorem wp_range_own {gf:Nat} {lb:Array Value} (hg:a.eval g=.func (.func gf) #[] lb) (eg:∀args w,(callFunc gf args).run P w=.ok (.enter gf args) w)
  {encs:α->Array Value} (hps:∀x,(encs x).size=ps.size) (T:Nat->α->(Nat->Prop)->World->Prop) {N:Nat} (S:Nat->Prop)
  (hseq:SeqOwn P gf lb encs T N S w)
  (I:Nat->(Nat->Prop)->World->Prop) (hZ:∀k Z W,I k Z W->¬Z w.heap.size/\¬Z (w.heap.size+1)) (hZl:∀k Z W,I k Z W->(∀i,Z i->i<W.heap.size)/\∀i,i<w.heap.size->Z i->S i)
  (hI:∀k Z W W',I k Z W->Kp W W' (fun i=>i=w.heap.size∨i=w.heap.size+1)->I k Z W') (Z0:Nat->Prop) (h0:I 0 Z0 w)
  (hround:∀(k:Nat) (x:α) (Z:Nat->Prop) (W:World) (K:Act->World->Prop),k<N->w.heap.size+2<=W.heap.size->I k Z W->T k x Z W->(∀a' W',Kp W W' Nul->(∀V,Kp W' V (fun i=>i=w.heap.size+1)->body.wpIn (Fence.wide.inRound (w.heap.size+1)) (8-1-1) P (fun e _ X=>e=.normal/\Kp V X Z/\∃Z',I (k+1) Z' X/\More Z Z' W) a' V)->K a' W') ->
   assign.wpIn (Fence.wide.inRound (w.heap.size+1)) (8-1-1) P (Exit.then K (fun _ _ _=>False)) { tmps:=(ps.zip (encs x)).foldl (fun t (p,v)=>t.setIfInBounds p v) a.tmps,defers:=[] } W)
  (hdone:∀(D:Nat) (Z:Nat->Prop) (W:World),w.heap.size<=D->I N Z W->W.heap[D]? = some (.deferred (some []))->Q .normal { a with defers:={ target:=.collected D,args:=#[] }::a.defers } W) :
  (Code.rangeFunc g ps assign body).wp P Q a w:=by
 refine(wpIn_wide (n:=8)).1 ?_
 refine wpIn_rangeFunc fun fn hfn=>?_
 obtain⟨W1,hW1⟩:∃W1,(w.alloc (.deferred (some []))).alloc (.loop (lrec fn a ps assign body w.heap.size .ready none))=W1:=⟨_,rfl⟩
 have l1:W1.heap[w.heap.size+1]? = some (.loop (lrec fn a ps assign body w.heap.size .ready none)):=by
  have:=World.alloc_heap_new (w.alloc (.deferred (some []))) (.loop (lrec fn a ps assign body w.heap.size .ready none))
  rw[World.size_alloc,hW1] at this
  exact this
 have k1:W1.heap[w.heap.size]? = some (.deferred (some [])):=by rw[<- hW1];exact(Below.heap_alloc _ _ _ (by simp)).trans (World.alloc_heap_new w _)
 have s1:W1.heap.size=w.heap.size+2:=by rw[<- hW1];simp
 have kW:Kp w W1 Nul:=by rw[<- hW1];exact((Kp.refl w Nul).alloc _).alloc _
 refine⟨w.heap.size+1,[{ target:=.collected w.heap.size,args:=#[] }],W1,{ target:=.fn (.func gf) lb,args:=#[.func (.yield (w.heap.size+1)) #[] #[]] },W1,gf,#[.func (.yield (w.heap.size+1)) #[] #[]]++lb,W1,?_,?_,fun f' _=>trivial,?_,fun _=>by decide,?_⟩
 ·rw[<- hW1];exact run_enterLoop_outer _ _ _ _ _
 ·simp only[resolve,hg]
  simp[go_sem]
 ·simp[invoke,go_sem,eg]
 ·have hkeep:∀ {A B:World} {o:Obj} {i:Nat},Kp A B Nul->A.heap[i]? = some o->B.heap[i]? = some o:=fun h e=>(h.block _ (Array.getElem?_eq_some_iff.1 e).1 (fun x=>x)).trans e
  refine callsIn_wide.2 ((hseq
   (fun k Z W=>I k Z W/\W.heap[w.heap.size+1]? = some (.loop (lrec fn a ps assign body w.heap.size .ready none))/\W.heap[w.heap.size]? = some (.deferred (some [])))
   Z0 W1 kW (by omega)
   (fun k Z A B h hk=>⟨hI k Z A B h.1 hk.of_nul,hkeep hk h.2.1,hkeep hk h.2.2⟩)
   (fun k Z A h=>hZl k Z A h.1)
   (fun m k x Z W hkN h ht=>by
    obtain⟨fn',tms,asg,bo,y1,y2⟩:=round_own (n:=8) (P:=P) hfn hps T I hZ hI hround k x Z W hkN h.1 ht h.2.1 h.2.2
    exact⟨fn',tms,asg,bo,y1,roundIn_any y2⟩)
   ⟨hI 0 Z0 w W1 h0 kW.of_nul,l1,k1⟩).mono ?_)
  rintro e W2 ⟨⟨v,rfl⟩,Z,hi,hl,hk⟩
  exact⟨none,_,run_endLoop (P:=P) hl (by simp[lrec]),hdone _ Z _ (Nat.le_refl _) (hI _ _ _ _ hi (putObj_self.mono (fun i _ e=>.inr e))) ((World.putObj_heap_other (by omega)).trans hk)⟩
end
end Go.Proofs.YtecjfnkakodebaaGreatDoor
namespace Go.Proofs.YtecjfnkakodebaaGreatDoor
open Go.RowKit Go.Shelf
attribute [local go_sem] Oper.semAt_some
theorem Kp.cut {w w1 w2:World} {S T:Nat->Prop} (h:Kp w w1 S) (k:Kp w1 w2 T) (hT:∀i,i<w.heap.size->T i->S i):Kp w w2 S:=
 ⟨k.os.trans h.os,k.tape.trans h.tape,k.output.trans h.output,Nat.le_trans h.size k.size,fun i hi hs=>(k.block i (Nat.lt_of_lt_of_le hi h.size) (fun q=>hs (hT i hi q))).trans (h.block i hi hs)⟩
section
variable {n:Nat} {P:Program} {α:Type} {g:Operand} {ps:Array Tmp} {assign body:Code} {Q:Exit->Act->World->Prop} {a:Act} {w:World}
theorem round_ow2 {encs:α->Array Value} {Wt:α->Nat->Prop} {fn:FuncId} {N:Nat} (hfn:Fence.wide.fn fn) (hps:∀x,(encs x).size=ps.size) (T:Nat->α->(Nat->Prop)->World->Prop) (hT:∀k x Z W,T k x Z W->¬Wt x w.heap.size/\¬Wt x (w.heap.size+1))
  (I:Nat->(Nat->Prop)->World->Prop) (hZ:∀k Z W,I k Z W->¬Z w.heap.size/\¬Z (w.heap.size+1)) (hI:∀k Z W W',I k Z W->Kp W W' (fun i=>i=w.heap.size∨i=w.heap.size+1)->I k Z W')
  (hround:∀(k:Nat) (x:α) (Z:Nat->Prop) (W:World) (K:Act->World->Prop),k<N->w.heap.size+2<=W.heap.size->I k Z W->T k x Z W->(∀a' W',Kp W W' Nul->(∀V,Kp W' V (fun i=>i=w.heap.size+1)->body.wpIn (Fence.wide.inRound (w.heap.size+1)) (n-1-1) P (fun e _ X=>e=.normal/\Kp V X (fun i=>(Z i∨Wt x i)∨W.heap.size<=i)/\∃Z',I (k+1) Z' X/\More Z Z' W) a' V)->K a' W') ->
   assign.wpIn (Fence.wide.inRound (w.heap.size+1)) (n-1-1) P (Exit.then K (fun _ _ _=>False)) { tmps:=(ps.zip (encs x)).foldl (fun t (p,v)=>t.setIfInBounds p v) a.tmps,defers:=[] } W)
  (k:Nat) (x:α) (Z:Nat->Prop) (W:World) (hkN:k<N) (hi:I k Z W) (ht:T k x Z W) (hl:W.heap[w.heap.size+1]? = some (.loop (lrec fn a ps assign body w.heap.size .ready none))) (hk:W.heap[w.heap.size]? = some (.deferred (some []))) :
  YieldAt Fence.wide (n-1-1) P (w.heap.size+1) (encs x) W fun e W'=>
   e=.returned (.bool true)/\(∃Z',(I (k+1) Z' W'/\W'.heap[w.heap.size+1]? = some (.loop (lrec fn a ps assign body w.heap.size .ready none))/\W'.heap[w.heap.size]? = some (.deferred (some [])))/\More Z Z' W)/\Kp W W' (fun i=>(Z i∨Wt x i)∨i=w.heap.size+1):=by
 have hy:=run_yield (P:=P) (args:=encs x) hl (hps x)
 have hWl:w.heap.size+1<W.heap.size:=(Array.getElem?_eq_some_iff.1 hl).1
 refine⟨fn,_,assign,body,hy,roundIn_of_wpIn hfn (hround k x Z W _ hkN hWl hi ht ?_)⟩
 clear hy
 intro a' V hkp hbody
 have vl:=(hkp.block _ hWl (fun x=>x)).trans hl
 have vk:=(hkp.block _ (by omega) (fun x=>x)).trans hk
 have hlt:w.heap.size+1<V.heap.size:=(Array.getElem?_eq_some_iff.1 vl).1
 refine⟨_,run_beginRound vl rfl,?_⟩
 obtain⟨bz,hbz⟩:∃bz:Loop,{ lrec fn a ps assign body w.heap.size .ready none with state:=.busy }=bz:=⟨_,rfl⟩
 obtain⟨U,hU⟩:∃U,V.putObj (w.heap.size+1) (.loop bz)=U:=⟨_,rfl⟩
 rw[hbz,hU]
 have ul:U.heap[w.heap.size+1]? = some (.loop bz):=by rw[<- hU];exact World.putObj_heap_same hlt
 have uk:U.heap[w.heap.size]? = some (.deferred (some [])):=by rw[<- hU];exact(World.putObj_heap_other (by omega)).trans vk
 have hVU:Kp V U (fun i=>i=w.heap.size+1):=by rw[<- hU];exact putObj_self
 refine wpIn_mono (hbody U hVU) ?_
 have leave:∀(X:World),Kp U X (fun i=>(Z i∨Wt x i)∨W.heap.size<=i) ->
   (Instr.endRound (w.heap.size+1) none).run P X=.ok (.bool true) (X.putObj (w.heap.size+1) (.loop (lrec fn a ps assign body w.heap.size .ready none))) /\
   (X.putObj (w.heap.size+1) (.loop (lrec fn a ps assign body w.heap.size .ready none))).heap[w.heap.size+1]? = some (.loop (lrec fn a ps assign body w.heap.size .ready none)) /\
   (X.putObj (w.heap.size+1) (.loop (lrec fn a ps assign body w.heap.size .ready none))).heap[w.heap.size]? = some (.deferred (some []))/\Kp X (X.putObj (w.heap.size+1) (.loop (lrec fn a ps assign body w.heap.size .ready none))) (fun i=>i=w.heap.size+1):=by
  intro X hX
  have hUl:w.heap.size+1<U.heap.size:=(Array.getElem?_eq_some_iff.1 ul).1
  have xl:=(hX.block _ hUl (fun q=>q.elim (fun q=>q.elim (hZ _ _ _ hi).2 (hT _ _ _ _ ht).2) (fun q=>by omega))).trans ul
  have xk:=(hX.block _ (by omega) (fun q=>q.elim (fun q=>q.elim (hZ _ _ _ hi).1 (hT _ _ _ _ ht).1) (fun q=>by omega))).trans uk
  refine⟨?_,World.putObj_heap_same (Array.getElem?_eq_some_iff.1 xl).1,(World.putObj_heap_other (by omega)).trans xk,putObj_self⟩
  have:=run_endRound (P:=P) none xl
  rw[<- hbz] at this
  exact this
 rintro e a3 X ⟨rfl,q1,Z',q2,q3⟩
 obtain⟨r1,r2,r3,r4⟩:=leave X q1
 refine⟨_,_,r1,rfl,⟨Z',⟨hI _ _ _ _ q2 (r4.mono (fun i _ e=>.inr e)),r2,r3⟩,q3⟩,?_⟩
 exact((hkp.of_nul.trans (hVU.mono (fun i _ e=>.inr e))).cut q1 (fun i hi e=>e.elim .inl (fun q=>by omega))).trans (r4.mono (fun i _ e=>.inr e))
def SeqOw2 (P:Program) (gf:Nat) (lb:Array Value) (encs:α->Array Value) (Wt:α->Nat->Prop) (T:Nat->α->(Nat->Prop)->World->Prop) (N:Nat) (S:Nat->Prop) (w:World):Prop:=
 ∀(J:Nat->(Nat->Prop)->World->Prop) (Z:Nat->Prop) (W:World),Kp w W Nul->w.heap.size+2<=W.heap.size->(∀k Z W W',J k Z W->Kp W W' Nul->J k Z W')->(∀k Z W,J k Z W->(∀i,Z i->i<W.heap.size)/\∀i,i<w.heap.size->Z i->S i) ->
   (∀m k x Z W1,k<N->J k Z W1->T k x Z W1->YieldAt Fence.wide m P (w.heap.size+1) (encs x) W1 fun e W'=>e=.returned (.bool true)/\(∃Z',J (k+1) Z' W'/\More Z Z' W1)/\Kp W1 W' (fun i=>(Z i∨Wt x i)∨i=w.heap.size+1))->J 0 Z W ->
   Calls P gf (#[.func (.yield (w.heap.size+1)) #[] #[]]++lb) W fun e W'=>(∃v,e=.returned v)/\∃Z',J N Z' W'
theorem wp_range_ow2 {gf:Nat} {lb:Array Value} (hg:a.eval g=.func (.func gf) #[] lb) (eg:∀args w,(callFunc gf args).run P w=.ok (.enter gf args) w)
  {encs:α->Array Value} (Wt:α->Nat->Prop) (hps:∀x,(encs x).size=ps.size) (T:Nat->α->(Nat->Prop)->World->Prop) (hT:∀k x Z W,T k x Z W->¬Wt x w.heap.size/\¬Wt x (w.heap.size+1)) {N:Nat} (S:Nat->Prop)
  (hseq:SeqOw2 P gf lb encs Wt T N S w)
  (I:Nat->(Nat->Prop)->World->Prop) (hZ:∀k Z W,I k Z W->¬Z w.heap.size/\¬Z (w.heap.size+1)) (hZl:∀k Z W,I k Z W->(∀i,Z i->i<W.heap.size)/\∀i,i<w.heap.size->Z i->S i)
  (hI:∀k Z W W',I k Z W->Kp W W' (fun i=>i=w.heap.size∨i=w.heap.size+1)->I k Z W') (Z0:Nat->Prop) (h0:I 0 Z0 w)
  (hround:∀(k:Nat) (x:α) (Z:Nat->Prop) (W:World) (K:Act->World->Prop),k<N->w.heap.size+2<=W.heap.size->I k Z W->T k x Z W->(∀a' W',Kp W W' Nul->(∀V,Kp W' V (fun i=>i=w.heap.size+1)->body.wpIn (Fence.wide.inRound (w.heap.size+1)) (8-1-1) P (fun e _ X=>e=.normal/\Kp V X (fun i=>(Z i∨Wt x i)∨W.heap.size<=i)/\∃Z',I (k+1) Z' X/\More Z Z' W) a' V)->K a' W') ->
   assign.wpIn (Fence.wide.inRound (w.heap.size+1)) (8-1-1) P (Exit.then K (fun _ _ _=>False)) { tmps:=(ps.zip (encs x)).foldl (fun t (p,v)=>t.setIfInBounds p v) a.tmps,defers:=[] } W)
  (hdone:∀(D:Nat) (Z:Nat->Prop) (W:World),D=w.heap.size->I N Z W->W.heap[D]? = some (.deferred (some []))->Q .normal { a with defers:={ target:=.collected D,args:=#[] }::a.defers } W) :
  (Code.rangeFunc g ps assign body).wp P Q a w:=by
 refine(wpIn_wide (n:=8)).1 ?_
 refine wpIn_rangeFunc fun fn hfn=>?_
 obtain⟨W1,hW1⟩:∃W1,(w.alloc (.deferred (some []))).alloc (.loop (lrec fn a ps assign body w.heap.size .ready none))=W1:=⟨_,rfl⟩
 have l1:W1.heap[w.heap.size+1]? = some (.loop (lrec fn a ps assign body w.heap.size .ready none)):=by
  have:=World.alloc_heap_new (w.alloc (.deferred (some []))) (.loop (lrec fn a ps assign body w.heap.size .ready none))
  rw[World.size_alloc,hW1] at this
  exact this
 have k1:W1.heap[w.heap.size]? = some (.deferred (some [])):=by rw[<- hW1];exact(Below.heap_alloc _ _ _ (by simp)).trans (World.alloc_heap_new w _)
 have s1:W1.heap.size=w.heap.size+2:=by rw[<- hW1];simp
 have kW:Kp w W1 Nul:=by rw[<- hW1];exact((Kp.refl w Nul).alloc _).alloc _
 refine⟨w.heap.size+1,[{ target:=.collected w.heap.size,args:=#[] }],W1,{ target:=.fn (.func gf) lb,args:=#[.func (.yield (w.heap.size+1)) #[] #[]] },W1,gf,#[.func (.yield (w.heap.size+1)) #[] #[]]++lb,W1,?_,?_,fun f' _=>trivial,?_,fun _=>by decide,?_⟩
 ·rw[<- hW1];exact run_enterLoop_outer _ _ _ _ _
 ·simp only[resolve,hg]
  simp[go_sem]
 ·simp[invoke,go_sem,eg]
 ·have hkeep:∀ {A B:World} {o:Obj} {i:Nat},Kp A B Nul->A.heap[i]? = some o->B.heap[i]? = some o:=fun h e=>(h.block _ (Array.getElem?_eq_some_iff.1 e).1 (fun x=>x)).trans e
  refine callsIn_wide.2 ((hseq
   (fun k Z W=>I k Z W/\W.heap[w.heap.size+1]? = some (.loop (lrec fn a ps assign body w.heap.size .ready none))/\W.heap[w.heap.size]? = some (.deferred (some [])))
   Z0 W1 kW (by omega)
   (fun k Z A B h hk=>⟨hI k Z A B h.1 hk.of_nul,hkeep hk h.2.1,hkeep hk h.2.2⟩)
   (fun k Z A h=>hZl k Z A h.1)
   (fun m k x Z W hkN h ht=>by
    obtain⟨fn',tms,asg,bo,y1,y2⟩:=round_ow2 (n:=8) (P:=P) (Wt:=Wt) hfn hps T hT I hZ hI hround k x Z W hkN h.1 ht h.2.1 h.2.2
    exact⟨fn',tms,asg,bo,y1,roundIn_any y2⟩)
   ⟨hI 0 Z0 w W1 h0 kW.of_nul,l1,k1⟩).mono ?_)
  rintro e W2 ⟨⟨v,rfl⟩,Z,hi,hl,hk⟩
  exact⟨none,_,run_endLoop (P:=P) hl (by simp[lrec]),hdone _ Z _ rfl (hI _ _ _ _ hi (putObj_self.mono (fun i _ e=>.inr e))) ((World.putObj_heap_other (by omega)).trans hk)⟩
end
end Go.Proofs.YtecjfnkakodebaaGreatDoor
namespace Go.Proofs.YtecjfnkakodebaaGreatDoor
open Go.RowKit Go.Shelf
attribute [local go_sem] Oper.semAt_some
section
variable {n:Nat} {P:Program} {α:Type} {g:Operand} {ps:Array Tmp} {assign body:Code} {Q:Exit->Act->World->Prop} {a:Act} {w:World}
theorem round_ow3 {encs:α->Array Value} {Wt:α->Nat->Prop} {fn:FuncId} {N:Nat} (hfn:Fence.wide.fn fn) (hps:∀x,(encs x).size=ps.size) (T:Nat->α->(Nat->Prop)->World->Prop) (hT:∀k x Z W,T k x Z W->¬Wt x w.heap.size/\¬Wt x (w.heap.size+1))
  (I:Nat->(Nat->Prop)->World->Prop) (hZ:∀k Z W,I k Z W->¬Z w.heap.size/\¬Z (w.heap.size+1)) (hI:∀k Z W W',I k Z W->Kp W W' (fun i=>i=w.heap.size∨i=w.heap.size+1)->I k Z W') (Ix:World->Prop) (hIx:∀W W',Ix W->Kp W W' (fun i=>i=w.heap.size∨i=w.heap.size+1)->Ix W')
  (hround:∀(k:Nat) (x:α) (Z:Nat->Prop) (W:World) (K:Act->World->Prop),k<N->w.heap.size+2<=W.heap.size->I k Z W->T k x Z W->(∀a' W',Kp W W' Nul->(∀V,Kp W' V (fun i=>i=w.heap.size+1)->(∃r,V.heap[w.heap.size+1]? = some (.loop r))->body.wpIn (Fence.wide.inRound (w.heap.size+1)) (n-1-1) P (fun e _ X=>(e=.normal/\Kp V X (fun i=>(Z i∨Wt x i)∨W.heap.size<=i)/\∃Z',I (k+1) Z' X/\More Z Z' W)∨(e=.ret/\Kp V X (fun i=>(Z i∨Wt x i)∨W.heap.size<=i)/\Ix X)) a' V)->K a' W') ->
   assign.wpIn (Fence.wide.inRound (w.heap.size+1)) (n-1-1) P (Exit.then K (fun _ _ _=>False)) { tmps:=(ps.zip (encs x)).foldl (fun t (p,v)=>t.setIfInBounds p v) a.tmps,defers:=[] } W)
  (k:Nat) (x:α) (Z:Nat->Prop) (W:World) (hkN:k<N) (hi:I k Z W) (ht:T k x Z W) (hl:W.heap[w.heap.size+1]? = some (.loop (lrec fn a ps assign body w.heap.size .ready none))) (hk:W.heap[w.heap.size]? = some (.deferred (some []))) :
  YieldAt Fence.wide (n-1-1) P (w.heap.size+1) (encs x) W fun e W'=>
   (e=.returned (.bool true)/\(∃Z',(I (k+1) Z' W'/\W'.heap[w.heap.size+1]? = some (.loop (lrec fn a ps assign body w.heap.size .ready none))/\W'.heap[w.heap.size]? = some (.deferred (some [])))/\More Z Z' W)/\Kp W W' (fun i=>(Z i∨Wt x i)∨i=w.heap.size+1)) ∨
   (e=.returned (.bool false)/\(Ix W'/\W'.heap[w.heap.size+1]? = some (.loop (lrec fn a ps assign body w.heap.size .done (some .ret)))/\W'.heap[w.heap.size]? = some (.deferred (some [])))):=by
 have hy:=run_yield (P:=P) (args:=encs x) hl (hps x)
 have hWl:w.heap.size+1<W.heap.size:=(Array.getElem?_eq_some_iff.1 hl).1
 refine⟨fn,_,assign,body,hy,roundIn_of_wpIn hfn (hround k x Z W _ hkN hWl hi ht ?_)⟩
 clear hy
 intro a' V hkp hbody
 have vl:=(hkp.block _ hWl (fun x=>x)).trans hl
 have vk:=(hkp.block _ (by omega) (fun x=>x)).trans hk
 have hlt:w.heap.size+1<V.heap.size:=(Array.getElem?_eq_some_iff.1 vl).1
 refine⟨_,run_beginRound vl rfl,?_⟩
 obtain⟨bz,hbz⟩:∃bz:Loop,{ lrec fn a ps assign body w.heap.size .ready none with state:=.busy }=bz:=⟨_,rfl⟩
 obtain⟨U,hU⟩:∃U,V.putObj (w.heap.size+1) (.loop bz)=U:=⟨_,rfl⟩
 rw[hbz,hU]
 have ul:U.heap[w.heap.size+1]? = some (.loop bz):=by rw[<- hU];exact World.putObj_heap_same hlt
 have uk:U.heap[w.heap.size]? = some (.deferred (some [])):=by rw[<- hU];exact(World.putObj_heap_other (by omega)).trans vk
 have hVU:Kp V U (fun i=>i=w.heap.size+1):=by rw[<- hU];exact putObj_self
 refine wpIn_mono (hbody U hVU ⟨_,ul⟩) ?_
 have leave:∀(jump:Option Code) (X:World),Kp U X (fun i=>(Z i∨Wt x i)∨W.heap.size<=i) ->
   (Instr.endRound (w.heap.size+1) jump).run P X=.ok (.bool jump.isNone) (X.putObj (w.heap.size+1) (.loop (lrec fn a ps assign body w.heap.size (if jump.isNone then .ready else .done) jump))) /\
   (X.putObj (w.heap.size+1) (.loop (lrec fn a ps assign body w.heap.size (if jump.isNone then .ready else .done) jump))).heap[w.heap.size+1]? = some (.loop (lrec fn a ps assign body w.heap.size (if jump.isNone then .ready else .done) jump)) /\
   (X.putObj (w.heap.size+1) (.loop (lrec fn a ps assign body w.heap.size (if jump.isNone then .ready else .done) jump))).heap[w.heap.size]? = some (.deferred (some []))/\Kp X (X.putObj (w.heap.size+1) (.loop (lrec fn a ps assign body w.heap.size (if jump.isNone then .ready else .done) jump))) (fun i=>i=w.heap.size+1):=by
  intro jump X hX
  have hUl:w.heap.size+1<U.heap.size:=(Array.getElem?_eq_some_iff.1 ul).1
  have xl:=(hX.block _ hUl (fun q=>q.elim (fun q=>q.elim (hZ _ _ _ hi).2 (hT _ _ _ _ ht).2) (fun q=>by omega))).trans ul
  have xk:=(hX.block _ (by omega) (fun q=>q.elim (fun q=>q.elim (hZ _ _ _ hi).1 (hT _ _ _ _ ht).1) (fun q=>by omega))).trans uk
  refine⟨?_,World.putObj_heap_same (Array.getElem?_eq_some_iff.1 xl).1,(World.putObj_heap_other (by omega)).trans xk,putObj_self⟩
  have:=run_endRound (P:=P) jump xl
  rw[<- hbz] at this
  exact this
 rintro e a3 X (⟨rfl,q1,Z',q2,q3⟩|⟨rfl,q1,q2⟩)
 ·obtain⟨r1,r2,r3,r4⟩:=leave none X q1
  refine⟨_,_,r1,.inl ⟨rfl,⟨Z',⟨hI _ _ _ _ q2 (r4.mono (fun i _ e=>.inr e)),r2,r3⟩,q3⟩,?_⟩⟩
  exact((hkp.of_nul.trans (hVU.mono (fun i _ e=>.inr e))).cut q1 (fun i hi e=>e.elim .inl (fun q=>by omega))).trans (r4.mono (fun i _ e=>.inr e))
 ·obtain⟨r1,r2,r3,r4⟩:=leave (some .ret) X q1
  exact⟨_,_,r1,.inr ⟨rfl,hIx _ _ q2 (r4.mono (fun i _ e=>.inr e)),r2,r3⟩⟩
def SeqOw3 (P:Program) (gf:Nat) (lb:Array Value) (encs:α->Array Value) (Wt:α->Nat->Prop) (T:Nat->α->(Nat->Prop)->World->Prop) (N:Nat) (S:Nat->Prop) (w:World):Prop:=
 ∀(J:Nat->(Nat->Prop)->World->Prop) (Jx:World->Prop) (Z:Nat->Prop) (W:World),Kp w W Nul->w.heap.size+2<=W.heap.size->(∀k Z W W',J k Z W->Kp W W' Nul->J k Z W')->(∀W W',Jx W->Kp W W' Nul->Jx W')->(∀k Z W,J k Z W->(∀i,Z i->i<W.heap.size)/\∀i,i<w.heap.size->Z i->S i) ->
   (∀m k x Z W1,k<N->J k Z W1->T k x Z W1->YieldAt Fence.wide m P (w.heap.size+1) (encs x) W1 fun e W'=>(e=.returned (.bool true)/\(∃Z',J (k+1) Z' W'/\More Z Z' W1)/\Kp W1 W' (fun i=>(Z i∨Wt x i)∨i=w.heap.size+1))∨(e=.returned (.bool false)/\Jx W'))->J 0 Z W ->
   Calls P gf (#[.func (.yield (w.heap.size+1)) #[] #[]]++lb) W fun e W'=>(∃v,e=.returned v)/\((∃Z',J N Z' W')∨Jx W')
theorem wp_range_ow3 {gf:Nat} {lb:Array Value} (hg:a.eval g=.func (.func gf) #[] lb) (eg:∀args w,(callFunc gf args).run P w=.ok (.enter gf args) w)
  {encs:α->Array Value} (Wt:α->Nat->Prop) (hps:∀x,(encs x).size=ps.size) (T:Nat->α->(Nat->Prop)->World->Prop) (hT:∀k x Z W,T k x Z W->¬Wt x w.heap.size/\¬Wt x (w.heap.size+1)) {N:Nat} (S:Nat->Prop)
  (hseq:SeqOw3 P gf lb encs Wt T N S w)
  (I:Nat->(Nat->Prop)->World->Prop) (hZ:∀k Z W,I k Z W->¬Z w.heap.size/\¬Z (w.heap.size+1)) (hZl:∀k Z W,I k Z W->(∀i,Z i->i<W.heap.size)/\∀i,i<w.heap.size->Z i->S i)
  (hI:∀k Z W W',I k Z W->Kp W W' (fun i=>i=w.heap.size∨i=w.heap.size+1)->I k Z W') (Ix:World->Prop) (hIx:∀W W',Ix W->Kp W W' (fun i=>i=w.heap.size∨i=w.heap.size+1)->Ix W') (Z0:Nat->Prop) (h0:I 0 Z0 w)
  (hround:∀(k:Nat) (x:α) (Z:Nat->Prop) (W:World) (K:Act->World->Prop),k<N->w.heap.size+2<=W.heap.size->I k Z W->T k x Z W->(∀a' W',Kp W W' Nul->(∀V,Kp W' V (fun i=>i=w.heap.size+1)->(∃r,V.heap[w.heap.size+1]? = some (.loop r))->body.wpIn (Fence.wide.inRound (w.heap.size+1)) (8-1-1) P (fun e _ X=>(e=.normal/\Kp V X (fun i=>(Z i∨Wt x i)∨W.heap.size<=i)/\∃Z',I (k+1) Z' X/\More Z Z' W)∨(e=.ret/\Kp V X (fun i=>(Z i∨Wt x i)∨W.heap.size<=i)/\Ix X)) a' V)->K a' W') ->
   assign.wpIn (Fence.wide.inRound (w.heap.size+1)) (8-1-1) P (Exit.then K (fun _ _ _=>False)) { tmps:=(ps.zip (encs x)).foldl (fun t (p,v)=>t.setIfInBounds p v) a.tmps,defers:=[] } W)
  (hdone:∀(D:Nat) (Z:Nat->Prop) (W:World),D=w.heap.size->I N Z W->W.heap[D]? = some (.deferred (some []))->Q .normal { a with defers:={ target:=.collected D,args:=#[] }::a.defers } W)
  (hstop:∀(D:Nat) (W:World),D=w.heap.size->Ix W->W.heap[D]? = some (.deferred (some []))->Code.ret.wp P Q { a with defers:={ target:=.collected D,args:=#[] }::a.defers } W) :
  (Code.rangeFunc g ps assign body).wp P Q a w:=by
 refine(wpIn_wide (n:=8)).1 ?_
 refine wpIn_rangeFunc fun fn hfn=>?_
 obtain⟨W1,hW1⟩:∃W1,(w.alloc (.deferred (some []))).alloc (.loop (lrec fn a ps assign body w.heap.size .ready none))=W1:=⟨_,rfl⟩
 have l1:W1.heap[w.heap.size+1]? = some (.loop (lrec fn a ps assign body w.heap.size .ready none)):=by
  have:=World.alloc_heap_new (w.alloc (.deferred (some []))) (.loop (lrec fn a ps assign body w.heap.size .ready none))
  rw[World.size_alloc,hW1] at this
  exact this
 have k1:W1.heap[w.heap.size]? = some (.deferred (some [])):=by rw[<- hW1];exact(Below.heap_alloc _ _ _ (by simp)).trans (World.alloc_heap_new w _)
 have s1:W1.heap.size=w.heap.size+2:=by rw[<- hW1];simp
 have kW:Kp w W1 Nul:=by rw[<- hW1];exact((Kp.refl w Nul).alloc _).alloc _
 refine⟨w.heap.size+1,[{ target:=.collected w.heap.size,args:=#[] }],W1,{ target:=.fn (.func gf) lb,args:=#[.func (.yield (w.heap.size+1)) #[] #[]] },W1,gf,#[.func (.yield (w.heap.size+1)) #[] #[]]++lb,W1,?_,?_,fun f' _=>trivial,?_,fun _=>by decide,?_⟩
 ·rw[<- hW1];exact run_enterLoop_outer _ _ _ _ _
 ·simp only[resolve,hg]
  simp[go_sem]
 ·simp[invoke,go_sem,eg]
 ·have hkeep:∀ {A B:World} {o:Obj} {i:Nat},Kp A B Nul->A.heap[i]? = some o->B.heap[i]? = some o:=fun h e=>(h.block _ (Array.getElem?_eq_some_iff.1 e).1 (fun x=>x)).trans e
  refine callsIn_wide.2 ((hseq
   (fun k Z W=>I k Z W/\W.heap[w.heap.size+1]? = some (.loop (lrec fn a ps assign body w.heap.size .ready none))/\W.heap[w.heap.size]? = some (.deferred (some [])))
   (fun W=>Ix W/\W.heap[w.heap.size+1]? = some (.loop (lrec fn a ps assign body w.heap.size .done (some .ret)))/\W.heap[w.heap.size]? = some (.deferred (some [])))
   Z0 W1 kW (by omega)
   (fun k Z A B h hk=>⟨hI k Z A B h.1 hk.of_nul,hkeep hk h.2.1,hkeep hk h.2.2⟩)
   (fun A B h hk=>⟨hIx A B h.1 hk.of_nul,hkeep hk h.2.1,hkeep hk h.2.2⟩)
   (fun k Z A h=>hZl k Z A h.1)
   (fun m k x Z W hkN h ht=>by
    obtain⟨fn',tms,asg,bo,y1,y2⟩:=round_ow3 (n:=8) (P:=P) (Wt:=Wt) hfn hps T hT I hZ hI Ix hIx hround k x Z W hkN h.1 ht h.2.1 h.2.2
    exact⟨fn',tms,asg,bo,y1,roundIn_any y2⟩)
   ⟨hI 0 Z0 w W1 h0 kW.of_nul,l1,k1⟩).mono ?_)
  rintro e W2 ⟨⟨v,rfl⟩,(⟨Z,hi,hl,hk⟩|⟨hi,hl,hk⟩)⟩
  rotate_left
  ·exact⟨some .ret,_,run_endLoop (P:=P) hl (by simp[lrec]),wpIn_wide.2 (hstop _ _ rfl (hIx _ _ hi (putObj_self.mono (fun i _ e=>.inr e))) ((World.putObj_heap_other (by omega)).trans hk))⟩
  exact⟨none,_,run_endLoop (P:=P) hl (by simp[lrec]),hdone _ Z _ rfl (hI _ _ _ _ hi (putObj_self.mono (fun i _ e=>.inr e))) ((World.putObj_heap_other (by omega)).trans hk)⟩
end
end Go.Proofs.YtecjfnkakodebaaGreatDoor
namespace Go.Proofs.YtecjfnkakodebaaGreatDoor
open Go.RowKit
section
variable {P:Program} {l n:Nat} {a:Act} {w:World} {Q:Exit->Act->World->Prop}
theorem wpIn_of_wp {o:Oper} {K:Act->World->Prop} (hd:∀c,o.op ≠ .defer c) (h:o.wp P a w K Q):o.wpIn (Fence.wide.inRound l) n P a w K Q:=by
 unfold Oper.wpIn
 refine⟨fun _ _=>trivial,?_⟩
 rw[Oper.semAt_eq _ _ _ hd]
 unfold Oper.wp at h
 generalize (execOp a.eval o).run P w=r at *
 cases r with
 | ok nx w'=>
  cases nx with
  | value v=>exact h
  | skip=>exact h
  | defer d=>exact h
  | enter f args=>exact⟨fun q=>(by cases q),callsIn_wide.2 h⟩
  | row row args=>exact⟨fun q=>(by cases q),fun c cs _=>let ⟨v,w2,r,s⟩:=h c cs;⟨v,w2,r,stepsIn_wide.2 s⟩⟩
  | _=>exact h.elim
 | halt x w'=>
  cases x with
  | panic v=>exact h
  | _=>exact h.elim
def noDefer (ops:Array Oper):Bool:=ops.all fun o=>match o.op with
 | .defer _=>false
 | _=>true
theorem noDefer_spec {ops:Array Oper} (h:noDefer ops=true) {i:Nat} {o:Oper} (ho:ops[i]? = some o):∀c,o.op ≠ .defer c:=fun c e=>by
 unfold noDefer at h
 obtain⟨hi,rfl⟩:=Array.getElem?_eq_some_iff.1 ho
 have:=Array.all_eq_true.1 h i hi
 rw[e] at this
 cases this
theorem wpAnyIn_of_any {md:Region.Mode} {ops:Array Oper} (hd:noDefer ops=true) (hL:¬LetsOut Q):∀(fuel:Nat) (listed:Array Bool) (a:Act) (w:World),wpAny P md ops Q fuel listed a w->wpAnyIn (Fence.wide.inRound l) n P md ops Q fuel listed a w
 | 0,_,_,_,h=>h
 | fuel+1,listed,a,w,h=>by
  refine⟨h.1,fun i hi=>?_⟩
  have h1:=h.2 i hi
  unfold wpOp at h1
  unfold wpOpIn
  split
  ·rename_i e
   rw[e] at h1
   exact wpAnyIn_of_any hd hL fuel _ a w h1
  ·rename_i o e
   rw[e] at h1
   simp only at h1
   split
   ·rename_i hw
    rw[if_pos hw] at h1
    rcases h1 with h1|h1
    ·exact wpIn_of_wp (noDefer_spec hd e) (Oper.wp_mono (fun a' w' q=>wpAnyIn_of_any hd hL fuel _ a' w' q) h1)
    ·exact absurd h1.2 hL
   ·rename_i hw
    rw[if_neg hw] at h1
    exact⟨fun _ _=>trivial,wpAnyIn_of_any hd hL fuel _ _ w h1⟩
theorem regIn_held {id:Nat} {ops:Array Oper} (S:World->Prop) (hm:P.follows .mixedOrders=true) (hd:noDefer ops=true) (hL:¬LetsOut Q) (hS:S w.drew) (h:S w.drew->wpAnyH P .any ops Q S ops.size (Array.replicate ops.size false) a w.drew):(Code.region id ops true).wpIn (Fence.wide.inRound l) n P Q a w:=
 wpIn_region_any hm (wpAnyIn_of_any hd hL _ _ _ _ (wpAny_of_held _ _ _ _ (h hS)))
theorem noPanic_lets (hQ:∀a w,¬Q .outgrown a w):¬LetsOut (NoPanic Q):=fun ⟨a,w,h⟩=>hQ a w (NoPanic.imp _ _ _ h)
end
end Go.Proofs.YtecjfnkakodebaaGreatDoor
