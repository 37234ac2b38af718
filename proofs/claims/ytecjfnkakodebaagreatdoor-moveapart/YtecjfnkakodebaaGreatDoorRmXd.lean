/-Copy: a tree of nodes in new memory. -/
import Derived.Test.YtecjfnkakodebaaGreatDoorRmXs
open Go.Proofs.Tryz
open Go.Value renaming int->O,bool->E,slice->U,agg->T,pointer->an,float->ap,string->aq
open Go.IntKind renaming i64->I
open Bool renaming false->R,true->J
open Option renaming some->H,none->G
open Go.Ending renaming returned->Q
open Go.FloatKind renaming f64->ao
set_option maxRecDepth 20000
set_option maxHeartbeats 8000000
namespace Go.Proofs.YtecjfnkakodebaaGreatDoor
open Go.RowKit
mutual
def cpy:Nd->Nd
 | .mk h ts=>.mk { h with x:=one h.x } (cpyL ts)
def cpyL:List Nd->List Nd
 | []=>[]
 | t::ts=>cpy t::cpyL ts
end
theorem j1l:∀ts:List Nd,cpyL ts=ts.map cpy
 | []=>by rw[cpyL];rfl
 | t::ts=>by rw[cpyL,j1l ts];rfl
theorem j4h (ts:List Nd):(cpyL ts).length=ts.length:=by rw[j1l,List.length_map]
theorem j4l (ts:List Nd)(k:Nat)(h:k<ts.length):cpyL (ts.take (k+1))=cpyL (ts.take k)++[cpy ts[k]]:=by
 rw[j1l,j1l,List.take_add_one,List.getElem?_eq_getElem h,List.map_append];rfl
mutual
theorem j2y:∀t:Nd,(cpy t).size=t.size
 | .mk h ts=>by rw[cpy,Nd.size,Nd.size,j4k ts]
theorem j4k:∀ts:List Nd,D3 (cpyL ts)=D3 ts
 | []=>by rw[cpyL]
 | t::ts=>by rw[cpyL,D3,D3,j2y t,j4k ts]
end
mutual
theorem j4m:∀t:Nd,t.ok->(cpy t).ok
 | .mk h ts,q=>by rw[Nd.ok] at q;rw[cpy,Nd.ok];exact⟨j1Q _ q.1,j4i ts q.2⟩
theorem j4i:∀ts:List Nd,okL ts->okL (cpyL ts)
 | [],_=>by rw[cpyL,okL];trivial
 | t::ts,q=>by rw[okL] at q;rw[cpyL,okL];exact⟨j4m t q.1,j4i ts q.2⟩
end
theorem j5e:(prog.info? 48).map (fun i=>(i.zero,i.size,i.bytes))=H (H (T #[O I 0,O I 0,ap ao 0,aq ⟨#[]⟩,E R,O I 0,O I 0,O I 0,E R,E R,O I 0,O I 0,E R,E R,U G 0 0]),15,128):=by kernel_rfl
theorem jBB (n:Nat)(hn:n<=1048576)(w:World):∃cs:Array Value,cs.size=n*15 /\
 (Instr.makeSlice 46 (O I (n:Int)) (O I (n:Int))).run prog w=.ok (U (H ⟨w.heap.size,0,G⟩) n n) (w.alloc (.cells cs 48)):=by
 obtain⟨i,hi,h1⟩:∃i,prog.info? 48=H i/\(i.zero,i.size,i.bytes)=(H (T #[O I 0,O I 0,ap ao 0,aq ⟨#[]⟩,E R,O I 0,O I 0,O I 0,E R,E R,O I 0,O I 0,E R,E R,U G 0 0]),15,128):=by
  have:=j5e;cases h:prog.info? 48 with
  | none=>rw[h] at this;cases this
  | some i=>rw[h] at this;exact⟨i,rfl,Option.some.inj this⟩
 simp only[Prod.mk.injEq] at h1;obtain⟨hz,hs,hb⟩:=h1;have:=run_make (P:=prog) w 46 48 i _ underlying46 hi hz .i64 .i64 n n (by omega) (Int.le_refl _) (by rw[hb];omega) (by omega);rw[Int.toNat_natCast] at this;exact⟨_,by rw[size_madeCells,hs],this⟩
theorem J5 {w:World}{b:Nat}{cs:Array Value}{t:TypeId}(hb:w.heap[b]? = H (.cells cs t (0,0)))(o n:Nat)(h:o+n<=cs.size):w.there b o n:=by
 intro j hj;constructor
 ·rw[cell_of_row w b (o+j) cs t (0,0) hb,Array.getElem?_eq_getElem (by omega)];rfl
 ·simp[World.frozen?,hb]
theorem jAC {w w':World}(h:Gr w w'):Below w.heap.size w w':=⟨h.ext.os,h.ext.tape,h.ext.output,h.ext.size,h.ext.block⟩
theorem j9T (h:Hd)(hx:h.x<18446744073709551616)(a:Option Addr)(c:Nat)(w:World):
 Calls prog 66 #[h.val (U a 0 c)] w fun e w'=>e=Q (({ h with x:=one h.x }:Hd).val (U G 0 0))/\Below w.heap.size w w':=by
 have H1:Hid (∀w,Calls prog 108 #[ap ao h.x] w fun e w'=>e=Q (ap ao (one h.x))/\w'=w):=j2B h.x hx;generalize one h.x=y at *;obtain⟨k,o,x,s,b,f,c1,r1,p1,q1,c2,r2,p2,q2⟩:=h;simp only at *;go_enter func66,ntmps66;go_wp2_with (go_at_call 108;refine(H1.o _).mono ?_;rintro e w' ⟨rfl,rfl⟩);generalize hW:((w.alloc (.cells #[O I k,O I o,ap ao y,aq s,E b,O I f,O I c1,O I r1,E p1,E q1,O I c2,O I r2,E p2,E q2,U G 0 0] 48)).alloc _)=W;have HW:Hid (W=_):=hW.symm;clear hW;go_loopw[22] (fun i wr=>i=O I 0/\wr=W) (fun _ _=>0)
 case atStart=>exact⟨rfl,rfl⟩
 case round=>
  obtain⟨rfl,rfl⟩:=hrel;rw[HW.o];go_wp2_with (refine F9 rfl 48 (.tmp 2) (.tmp 34) rfl _ _ _ _ _ (by simp) rfl rfl rfl j3 (Hd.one ⟨k,o,y,s,b,f,c1,r1,p1,q1,c2,r2,p2,q2⟩ rfl) ?_);refine bodyPost_ret (results_cell_row rfl _ _ (w.heap.size+1) 48 _ (0,0) _ rfl (heap_alloc2_new _ _ _) underlying48 rfl j3) rfl ?_;exact⟨rfl,((Below.refl _ _).alloc (Nat.le_refl _) _).alloc (by simp) _⟩
structure CpAt (W0 wr:World) (A n k:Nat) (us:List Nd) (fps:List Nat):Prop where
 below:Below A W0 wr
 lt:A<wr.heap.size
 row:∃cs,wr.heap[A]? = H (.cells cs 48 (0,0))/\cs.size=n*15
 len:us.length=k
 own:D8 wr A 0 us fps
 nodup:fps.Nodup
 new:∀b∈fps,A<b/\b<wr.heap.size
theorem CpAt.step {W0 wr w1:World}{A n k:Nat}{us:List Nd}{fps:List Nat}(h:CpAt W0 wr A n k us fps)(hk:k<n){B:Nat}(hB:wr.heap.size<=B)(hg:Below wr.heap.size wr w1){sl:Value}{u:Nd}{f:List Nat}(hu:Own w1 B sl u f):
 CpAt W0 (w1.setCells A (k*15) (u.hd.cells sl)) A n (k+1) (us++[u]) (fps++f):=by
 obtain⟨cs,h1,h2⟩:=h.row;have hA:=(hg.block A h.lt).trans h1;have hth:w1.there A (k*15) 15:=J5 hA _ _ (by omega);have hne:∀b,b≠A->(w1.setCells A (k*15) (u.hd.cells sl)).heap[b]? = w1.heap[b]?:=fun b hb=>L5 hb _ _ _
 refine⟨?_,?_,?_,?_,?_,?_,?_⟩
 ·exact Y1 (h.below.trans (hg.mono (Nat.le_of_lt h.lt))) (Nat.le_refl _) _ _
 ·rw[T6];exact Nat.lt_of_lt_of_le h.lt hg.size
 ·exact⟨_,j08 _ _ _ _ hA,by rw[j2U,h2]⟩
 ·rw[List.length_append,h.len];rfl
 ·have o1:=h.own.mono (fun o' cs' _ _ hr=>I7 hr (hg.block A h.lt)) (fun b hb=>hg.block b (h.new b hb).2);have o2:D8 (w1.setCells A (k*15) (u.hd.cells sl)) A 0 us fps:=by
   refine o1.mono (fun o' cs' _ q hr=>?_) (fun b hb=>hne b (by have:=(h.new b hb).1;omega));exact World.rangeAt_setCells_apart hr _ _ _ (.inr (.inl (by rw[h.len] at q;omega)))
  refine D8.snoc (sl:=sl) (hu.own.mono (fun b hb=>hne b (by have:=(hu.new b hb).1;have:=h.lt;omega))) o2 ?_;rw[h.len,Nat.zero_add];exact World.rangeAt_setCells_same _ _ _ _ (by simpa using hth)
 ·rw[List.nodup_append];refine⟨h.nodup,hu.nodup,fun b hb b' hb' e=>?_⟩;subst e;have:=(h.new b hb).2;have:=(hu.new b hb').1;omega
 ·intro b hb;rw[T6];rcases List.mem_append.1 hb with hb|hb
  ·exact⟨(h.new b hb).1,Nat.lt_of_lt_of_le (h.new b hb).2 hg.size⟩
  ·exact⟨by have:=(hu.new b hb).1;have:=h.lt;omega,(hu.new b hb).2⟩
theorem CpAt.done {W0 wr:World}{A n:Nat}{us:List Nd}{fps:List Nat}(h:CpAt W0 wr A n n us fps)(hn:0<n)(hm:n<=1048576)(g:Hd):Own wr A (U (H ⟨A,0,G⟩) n n) (.mk g us) (A::fps):=by
 obtain⟨cs,h1,h2⟩:=h.row;refine⟨?_,?_,?_⟩
 ·rw[D2];refine .inr ⟨A,n,fps,cs,by rw[h.len],fun e=>by have:=h.len;rw[e] at this;simp at this;omega,by rw[h.len];exact Nat.le_refl _,by unfold maxLen;omega,h1,h2,rfl,h.own⟩
 ·rw[List.nodup_cons];exact⟨fun hb=>by have:=(h.new A hb).1;omega,h.nodup⟩
 ·intro b hb;rcases List.mem_cons.1 hb with rfl|hb
  ·exact⟨Nat.le_refl _,h.lt⟩
  ·exact⟨Nat.le_of_lt (h.new b hb).1,(h.new b hb).2⟩
theorem j0l {w:World}{sl:Value}{t:Nd}{fp:List Nat}(h:D2 w sl t fp):∃p l c,sl=U p l c:=by
 cases t;rw[D2] at h
 rcases h with ⟨_,rfl,_⟩|⟨b,c,_,_,rfl,_⟩
 ·exact⟨_,_,_,rfl⟩
 ·exact⟨_,_,_,rfl⟩
def Kc (X:World) (B A:Nat) (w':World):Prop:=∀a:Addr,a.block<B->a.block≠A->w'.cell? a=X.cell? a
theorem Kc.below {X w':World}{B A:Nat}(h:Below B X w'):Kc X B A w':=fun _ h1 _=>h.cell h1
theorem Kc.sets {X w':World}{B A:Nat}(h:Kc X B A w')(o:Nat)(vs:List Value):Kc X B A (w'.setCells A o vs):=fun a h1 h2=>by
 rw[World.cell?_setCells_out A vs o w' a (fun e=>absurd e h2)];exact h a h1 h2
theorem jE9 {w:World}{b o:Nat}(h:w.there b o 15):∃y0 y1 y2 y3 y4 y5 y6 y7 y8 y9 y10 y11 y12 y13 y14,w.cell? ⟨b,o,G⟩=H y0/\w.cell? ⟨b,o+1,G⟩=H y1/\w.cell? ⟨b,o+2,G⟩=H y2/\w.cell? ⟨b,o+3,G⟩=H y3/\w.cell? ⟨b,o+4,G⟩=H y4/\w.cell? ⟨b,o+5,G⟩=H y5/\w.cell? ⟨b,o+6,G⟩=H y6/\w.cell? ⟨b,o+7,G⟩=H y7/\w.cell? ⟨b,o+8,G⟩=H y8/\w.cell? ⟨b,o+9,G⟩=H y9/\w.cell? ⟨b,o+10,G⟩=H y10/\w.cell? ⟨b,o+11,G⟩=H y11/\w.cell? ⟨b,o+12,G⟩=H y12/\w.cell? ⟨b,o+13,G⟩=H y13/\w.cell? ⟨b,o+14,G⟩=H y14/\w.frozen? ⟨b,o,G⟩=R/\w.frozen? ⟨b,o+1,G⟩=R/\w.frozen? ⟨b,o+2,G⟩=R/\w.frozen? ⟨b,o+3,G⟩=R/\w.frozen? ⟨b,o+4,G⟩=R/\w.frozen? ⟨b,o+5,G⟩=R/\w.frozen? ⟨b,o+6,G⟩=R/\w.frozen? ⟨b,o+7,G⟩=R/\w.frozen? ⟨b,o+8,G⟩=R/\w.frozen? ⟨b,o+9,G⟩=R/\w.frozen? ⟨b,o+10,G⟩=R/\w.frozen? ⟨b,o+11,G⟩=R/\w.frozen? ⟨b,o+12,G⟩=R/\w.frozen? ⟨b,o+13,G⟩=R/\w.frozen? ⟨b,o+14,G⟩=R:=by
 obtain⟨y0,t0⟩:=Option.isSome_iff_exists.1 (h 0 (by decide)).1;obtain⟨y1,t1⟩:=Option.isSome_iff_exists.1 (h 1 (by decide)).1;obtain⟨y2,t2⟩:=Option.isSome_iff_exists.1 (h 2 (by decide)).1;obtain⟨y3,t3⟩:=Option.isSome_iff_exists.1 (h 3 (by decide)).1;obtain⟨y4,t4⟩:=Option.isSome_iff_exists.1 (h 4 (by decide)).1;obtain⟨y5,t5⟩:=Option.isSome_iff_exists.1 (h 5 (by decide)).1;obtain⟨y6,t6⟩:=Option.isSome_iff_exists.1 (h 6 (by decide)).1;obtain⟨y7,t7⟩:=Option.isSome_iff_exists.1 (h 7 (by decide)).1;obtain⟨y8,t8⟩:=Option.isSome_iff_exists.1 (h 8 (by decide)).1;obtain⟨y9,t9⟩:=Option.isSome_iff_exists.1 (h 9 (by decide)).1;obtain⟨y10,t10⟩:=Option.isSome_iff_exists.1 (h 10 (by decide)).1;obtain⟨y11,t11⟩:=Option.isSome_iff_exists.1 (h 11 (by decide)).1;obtain⟨y12,t12⟩:=Option.isSome_iff_exists.1 (h 12 (by decide)).1;obtain⟨y13,t13⟩:=Option.isSome_iff_exists.1 (h 13 (by decide)).1;obtain⟨y14,t14⟩:=Option.isSome_iff_exists.1 (h 14 (by decide)).1
 exact⟨y0,y1,y2,y3,y4,y5,y6,y7,y8,y9,y10,y11,y12,y13,y14,t0,t1,t2,t3,t4,t5,t6,t7,t8,t9,t10,t11,t12,t13,t14,(h 0 (by decide)).2,(h 1 (by decide)).2,(h 2 (by decide)).2,(h 3 (by decide)).2,(h 4 (by decide)).2,(h 5 (by decide)).2,(h 6 (by decide)).2,(h 7 (by decide)).2,(h 8 (by decide)).2,(h 9 (by decide)).2,(h 10 (by decide)).2,(h 11 (by decide)).2,(h 12 (by decide)).2,(h 13 (by decide)).2,(h 14 (by decide)).2⟩
theorem j6t (w:World)(b o:Nat)(h:Hd)(sl:Value):w.setCells b o (h.cells sl)=((((((((((((((w.setCell ⟨b,o,G⟩ (O I h.k)).setCell ⟨b,o+1,G⟩ (O I h.o)).setCell ⟨b,o+2,G⟩ (ap ao h.x)).setCell ⟨b,o+3,G⟩ (aq h.s)).setCell ⟨b,o+4,G⟩ (E h.b)).setCell ⟨b,o+5,G⟩ (O I h.f)).setCell ⟨b,o+6,G⟩ (O I h.c1)).setCell ⟨b,o+7,G⟩ (O I h.r1)).setCell ⟨b,o+8,G⟩ (E h.p1)).setCell ⟨b,o+9,G⟩ (E h.q1)).setCell ⟨b,o+10,G⟩ (O I h.c2)).setCell ⟨b,o+11,G⟩ (O I h.r2)).setCell ⟨b,o+12,G⟩ (E h.p2)).setCell ⟨b,o+13,G⟩ (E h.q2)).setCell ⟨b,o+14,G⟩ sl:=rfl
theorem j9V (h:Hd)(hx:h.x<18446744073709551616)(ts:List Nd)(n:Nat)(hts:ts.length=n)(hn:0<n)(hm:n<=1048576)(b o c:Nat)(F:Nat->Prop)(w:World)(hns:F6 w F b o ts)
 (ag:Hid (∀i,(hi:i<ts.length)->∀(s1:Value) (wq:World),NdIn wq F s1 ts[i]->Calls prog 66 #[(ts[i]).hd.val s1] wq fun e w'=>
  ∃sl' fp,e=Q ((cpy ts[i]).hd.val sl')/\Own w' wq.heap.size sl' (cpy ts[i]) fp/\Below wq.heap.size wq w')) :
 Calls prog 66 #[h.val (U (H ⟨b,o,G⟩) n c)] w fun e w'=>
  ∃sl' fp,e=Q (({ h with x:=one h.x }:Hd).val sl')/\Own w' w.heap.size sl' (.mk { h with x:=one h.x } (cpyL ts)) fp/\Below w.heap.size w w':=by
 have H1:=h_ (j2B h.x hx);generalize one h.x=y at *;have HTS:=h_ hts;have HNS:=h_ hns;have HM:=h_ hm;have hb:Hid (b<w.heap.size):=by
  show _<_;obtain⟨sl,hr,_⟩:=hns.get 0 (by omega);exact Q0 hr
 clear hns hts;obtain⟨k,o',x,s,bb,f,c1,r1,p1,q1,c2,r2,p2,q2⟩:=h;simp only at *;obtain⟨cs,hcs,hmk⟩:=jBB n hm (((w.alloc (.cells #[O I k,O I o',ap ao y,aq s,E bb,O I f,O I c1,O I r1,E p1,E q1,O I c2,O I r2,E p2,E q2,U G 0 0] 48))).alloc (.cells #[O I 0,O I 0,ap ao 0,aq ⟨#[]⟩,E R,O I 0,O I 0,O I 0,E R,E R,O I 0,O I 0,E R,E R,U G 0 0] 48));have HCS:=h_ hcs;clear hcs hm;have hn':(0:Int)<(n:Int):=by omega
 go_enter func66,ntmps66;go_wp2_with (go_at_call 108;refine(H1.o _).mono ?_;rintro e w' ⟨rfl,rfl⟩);clear hmk H1;generalize hA:w.heap.size+1+1=A at *;generalize hW:(((w.alloc (.cells #[O I k,O I o',ap ao y,aq s,E bb,O I f,O I c1,O I r1,E p1,E q1,O I c2,O I r2,E p2,E q2,U (H ⟨A,0,G⟩) n n] 48)).alloc (.cells #[O I 0,O I 0,ap ao 0,aq ⟨#[]⟩,E R,O I 0,O I 0,O I 0,E R,E R,O I 0,O I 0,E R,E R,U G 0 0] 48)).alloc (.cells cs 48))=W0 at *;have HAq:=h_ hA;have SZ:Hid (W0.heap.size=A+1):=by show _=_;rw[<- hW];simp[World.size_alloc];omega
 have B0:Hid (W0.heap[w.heap.size]? = H (.cells #[O I k,O I o',ap ao y,aq s,E bb,O I f,O I c1,O I r1,E p1,E q1,O I c2,O I r2,E p2,E q2,U (H ⟨A,0,G⟩) n n] 48 (0,0))):=by
  show _=_;rw[<- hW,Below.heap_alloc _ _ _ (by simp[World.size_alloc] <;> omega),heap_alloc2_old]
 have B1:Hid (W0.heap[w.heap.size+1]? = H (.cells #[O I 0,O I 0,ap ao 0,aq ⟨#[]⟩,E R,O I 0,O I 0,O I 0,E R,E R,O I 0,O I 0,E R,E R,U G 0 0] 48 (0,0))):=by
  show _=_;rw[<- hW,Below.heap_alloc _ _ _ (by simp[World.size_alloc] <;> omega),heap_alloc2_new]
 have B2:Hid (W0.heap[A]? = H (.cells cs 48 (0,0))):=by
  show _=_;rw[<- hW,<- hA];have:=heap_alloc_new ((w.alloc (.cells #[O I k,O I o',ap ao y,aq s,E bb,O I f,O I c1,O I r1,E p1,E q1,O I c2,O I r2,E p2,E q2,U (H ⟨A,0,G⟩) n n] 48)).alloc (.cells #[O I 0,O I 0,ap ao 0,aq ⟨#[]⟩,E R,O I 0,O I 0,O I 0,E R,E R,O I 0,O I 0,E R,E R,U G 0 0] 48)) (.cells cs 48);rw[World.size_alloc,World.size_alloc] at this;rw[hA] at this ⊢;exact this
 have G0:Hid (Below w.heap.size w W0):=by
  show Below _ _ _;rw[<- hW];exact(((Below.refl _ _).alloc (Nat.le_refl _) _).alloc (by simp[World.size_alloc]) _).alloc (by simp[World.size_alloc];omega) _
 clear hW hA;go_loopw[22] (fun i wr=>∃(q:Nat) (fps:List Nat),q<=n/\i=O I q/\CpAt W0 wr A n q (cpyL (ts.take q)) fps) (fun i _=>n-(RowKit.intOf i).toNat)
 case atStart=>
  refine⟨0,[],Nat.zero_le _,rfl,Below.refl _ _,by rw[SZ.o];omega,⟨cs,B2.o,HCS.o⟩,by simp[cpyL],by simp[cpyL,D8],List.nodup_nil,fun b hb=>by simp at hb⟩
 case round=>
  obtain⟨q,fps,hq,rfl,hcp⟩:=hrel;have CP:=h_ hcp;have GW:=h_ (G0.o.trans (hcp.below.mono (by have:=HAq.o;omega)));have D0:=h_ ((hcp.below.block _ (by have:=HAq.o;omega)).trans B0.o);have D1:=h_ ((hcp.below.block _ (by have:=HAq.o;omega)).trans B1.o);clear hcp;by_cases hlt:q<n
  ·have hqt:q<ts.length:=(by rw[HTS.o];exact hlt);obtain⟨s1,r1',n1⟩:=HNS.o.get q hqt;have c14:=cell_of_row wr _ 14 _ _ _ D0.o;have R1:=h_ (I7 r1' (GW.o.block b hb.o));have N1:=(h_ fun wq (hq:Below wr.heap.size wr wq)=>n1.mono fun b hb hlt=>⟨(hq.block b (Nat.lt_of_lt_of_le hlt GW.o.size)).trans (GW.o.block b hlt),hb⟩);have HC:Hid (∀wq,Below wr.heap.size wr wq->Calls prog 66 #[(ts[q]).hd.val s1] wq fun e w'=>
    ∃sl' fp,e=Q ((cpy ts[q]).hd.val sl')/\Own w' wq.heap.size sl' (cpy ts[q]) fp/\Below wq.heap.size wq w'):=fun wq hq=>ag.o q hqt s1 wq (N1.o wq hq)
   have O1:=h_ n1.one;have HT:=h_ (j4l ts q hqt);have HQB:Hid ((q:Int)+1<=9223372036854775807):=(by show _<=_;have:=HM.o;omega);have hq0:(0:Int)<=(q:Int):=(by omega);have hqn:(q:Int)<(n:Int):=(by omega);clear r1' n1 N1 ag;generalize cpy ts[q]=u at *;generalize (ts[q]).hd=ha at *;go_wp2_with (first|(refine wpList_load_mid rfl _ (.tmp 25) rfl _ (o+q*15) rfl _ _ R1.o underlying48 rfl j3 ?_)|(refine F9 rfl _ (.tmp 5) (.tmp 26) rfl _ _ _ _ _ (by first|rfl|simp) rfl rfl rfl j3 (ha.one O1.o) ?_))
   go_frame
   have KS:Hid (∀w',Kc (wr.alloc (.cells (ha.cells s1).toArray 48)) (wr.heap.size+1) A w'->w'.cell? ⟨w.heap.size,14,G⟩=H (U (H ⟨A,0,G⟩) n n)/\w'.cell? ⟨wr.heap.size,0,G⟩=H (O I ha.k)/\w'.cell? ⟨wr.heap.size,1,G⟩=H (O I ha.o)/\w'.cell? ⟨wr.heap.size,2,G⟩=H (ap ao ha.x)/\w'.cell? ⟨wr.heap.size,3,G⟩=H (aq ha.s)/\w'.cell? ⟨wr.heap.size,4,G⟩=H (E ha.b)/\w'.cell? ⟨wr.heap.size,5,G⟩=H (O I ha.f)/\w'.cell? ⟨wr.heap.size,6,G⟩=H (O I ha.c1)/\w'.cell? ⟨wr.heap.size,7,G⟩=H (O I ha.r1)/\w'.cell? ⟨wr.heap.size,8,G⟩=H (E ha.p1)/\w'.cell? ⟨wr.heap.size,9,G⟩=H (E ha.q1)/\w'.cell? ⟨wr.heap.size,10,G⟩=H (O I ha.c2)/\w'.cell? ⟨wr.heap.size,11,G⟩=H (O I ha.r2)/\w'.cell? ⟨wr.heap.size,12,G⟩=H (E ha.p2)/\w'.cell? ⟨wr.heap.size,13,G⟩=H (E ha.q2)/\w'.cell? ⟨wr.heap.size,14,G⟩=H s1):=by
    intro w' hb';have hc:∀j v,((ha.cells s1).toArray)[j]? = H v->w'.cell? ⟨wr.heap.size,j,G⟩=H v:=by
     intro j v hj;rw[hb' _ (Nat.lt_succ_self _) (by show wr.heap.size≠A;have:=CP.o.lt;omega),World.cell?_alloc_at _ _ _ _ rfl];exact hj
    exact⟨by rw[hb' _ (by show w.heap.size<_;have:=J7 c14;omega) (by show w.heap.size≠A;have:=HAq.o;omega),World.cell?_alloc_lt _ _ _ (J7 c14)];exact c14,hc 0 _ rfl,hc 1 _ rfl,hc 2 _ rfl,hc 3 _ rfl,hc 4 _ rfl,hc 5 _ rfl,hc 6 _ rfl,hc 7 _ rfl,hc 8 _ rfl,hc 9 _ rfl,hc 10 _ rfl,hc 11 _ rfl,hc 12 _ rfl,hc 13 _ rfl,hc 14 _ rfl⟩
   have ST:Hid (∀w',Below (wr.heap.size+1) (wr.alloc (.cells (ha.cells s1).toArray 48)) w'->w'.there A (q*15) 15):=by
    intro w' hb';obtain⟨cs',e1,e2⟩:=CP.o.row;have hA:=CP.o.lt;refine J5 (cs:=cs') (t:=48) ?_ _ _ (by omega);rw[hb'.block A (by omega),Below.heap_alloc _ _ _ hA];exact e1
   have hS0:=KS.o _ (Kc.below ((Below.refl _ _).drew));go_region_held3 (fun w'=>w'.cell? ⟨w.heap.size,14,G⟩=H (U (H ⟨A,0,G⟩) n n)/\w'.cell? ⟨wr.heap.size,0,G⟩=H (O I ha.k)/\w'.cell? ⟨wr.heap.size,1,G⟩=H (O I ha.o)/\w'.cell? ⟨wr.heap.size,2,G⟩=H (ap ao ha.x)/\w'.cell? ⟨wr.heap.size,3,G⟩=H (aq ha.s)/\w'.cell? ⟨wr.heap.size,4,G⟩=H (E ha.b)/\w'.cell? ⟨wr.heap.size,5,G⟩=H (O I ha.f)/\w'.cell? ⟨wr.heap.size,6,G⟩=H (O I ha.c1)/\w'.cell? ⟨wr.heap.size,7,G⟩=H (O I ha.r1)/\w'.cell? ⟨wr.heap.size,8,G⟩=H (E ha.p1)/\w'.cell? ⟨wr.heap.size,9,G⟩=H (E ha.q1)/\w'.cell? ⟨wr.heap.size,10,G⟩=H (O I ha.c2)/\w'.cell? ⟨wr.heap.size,11,G⟩=H (O I ha.r2)/\w'.cell? ⟨wr.heap.size,12,G⟩=H (E ha.p2)/\w'.cell? ⟨wr.heap.size,13,G⟩=H (E ha.q2)/\w'.cell? ⟨wr.heap.size,14,G⟩=H s1) (first|with_reducible exact hS0|with_reducible exact hS2|(rw[<- j6t];exact KS.o _ (Kc.sets (Kc.below hbl) _ _))) (first|(go_at_call 66;refine(HC.o _ (((Below.refl _ _).alloc (Nat.le_refl _) _).drew)).mono ?_;rintro e w2 ⟨sl',fp,rfl,hown,hbw⟩;obtain⟨pp,ll,cc,rfl⟩:=j0l hown.own;have hbl:Below (wr.heap.size+1) (wr.alloc (.cells (ha.cells s1).toArray 48)) w2:=(((Below.refl _ _).drew).trans (hbw.mono (by simp[World.size_alloc])));obtain⟨y0,y1,y2,y3,y4,y5,y6,y7,y8,y9,y10,y11,y12,y13,y14,t0,t1,t2,t3,t4,t5,t6,t7,t8,t9,t10,t11,t12,t13,t14,f0,f1,f2,f3,f4,f5,f6,f7,f8,f9,f10,f11,f12,f13,f14⟩:=jE9 (ST.o _ hbl);have hS2:=KS.o _ (Kc.below hbl)))
   have GB:=h_ (((Below.refl _ _).alloc (Nat.le_refl _) _).trans (hbl.mono (Nat.le_succ _)));have HO:Hid (Own w2 (wr.heap.size+1) (U pp ll cc) u fp):=by
    have:=hown;rw[show ((wr.alloc (.cells (ha.cells s1).toArray 48)).drew).heap.size=wr.heap.size+1 from by simp[World.size_alloc]] at this;exact this
   have CN:Hid (CpAt W0 (w2.setCells A (q*15) (u.hd.cells (U pp ll cc))) A n (q+1) (cpyL (ts.take (q+1))) (fps++fp)):=by
    show CpAt _ _ _ _ _ _ _;rw[HT.o];exact CP.o.step hlt (Nat.le_succ _) GB.o HO.o
   rw[j6t] at CN;have hqb:=HQB.o;clear hS0 hS2 hown hbw hbl KS ST t0 t1 t2 t3 t4 t5 t6 t7 t8 t9 t10 t11 t12 t13 t14 f0 f1 f2 f3 f4 f5 f6 f7 f8 f9 f10 f11 f12 f13 f14 c14;go_wp2_with fail;go_roundw
   case rel=>exact⟨q+1,fps++fp,by omega,by go_num,CN.o⟩
   case measure=>simp only[RowKit.intOf];omega
  ·have hqe:q=n:=(by omega);subst hqe;have hqn:¬((q:Int)<(q:Int)):=(by omega);have DN:Hid (Own wr A (U (H ⟨A,0,G⟩) q q) (.mk ⟨k,o',y,s,bb,f,c1,r1,p1,q1,c2,r2,p2,q2⟩ (cpyL ts)) (A::fps)):=by
    have:=CP.o.done hn HM.o ⟨k,o',y,s,bb,f,c1,r1,p1,q1,c2,r2,p2,q2⟩;rw[List.take_of_length_le (by rw[HTS.o];exact Nat.le_refl _)] at this;exact this
   have R0:Hid (wr.rangeAt w.heap.size 0 (Hd.cells ⟨k,o',y,s,bb,f,c1,r1,p1,q1,c2,r2,p2,q2⟩ (U (H ⟨A,0,G⟩) q q))):=by
    intro j v hj;rw[cell_of_row wr _ _ _ _ _ D0.o,Nat.zero_add]
    simpa using hj
   have T1:Hid (wr.there (w.heap.size+1) 0 15):=J5 D1.o _ _ (by simp);have E1:Hid ((wr.setCells (w.heap.size+1) 0 (Hd.cells ⟨k,o',y,s,bb,f,c1,r1,p1,q1,c2,r2,p2,q2⟩ (U (H ⟨A,0,G⟩) q q))).heap[w.heap.size+1]? = H (.cells (Hd.cells ⟨k,o',y,s,bb,f,c1,r1,p1,q1,c2,r2,p2,q2⟩ (U (H ⟨A,0,G⟩) q q)).toArray 48 (0,0))):=
    V9 (cs:=(Hd.cells ⟨k,o',y,s,bb,f,c1,r1,p1,q1,c2,r2,p2,q2⟩ (U (H ⟨A,0,G⟩) q q)).toArray) D1.o (by simp)
   have OW:Hid (Own (wr.setCells (w.heap.size+1) 0 (Hd.cells ⟨k,o',y,s,bb,f,c1,r1,p1,q1,c2,r2,p2,q2⟩ (U (H ⟨A,0,G⟩) q q))) w.heap.size (U (H ⟨A,0,G⟩) q q) (.mk ⟨k,o',y,s,bb,f,c1,r1,p1,q1,c2,r2,p2,q2⟩ (cpyL ts)) (A::fps)):=by
    have hA:=HAq.o;refine⟨DN.o.own.mono (fun b hb=>L5 (by have:=(DN.o.new b hb).1;omega) _ _ _),DN.o.nodup,fun b hb=>?_⟩;rw[T6];exact⟨by have:=(DN.o.new b hb).1;omega,(DN.o.new b hb).2⟩
   have BW:Hid (Below w.heap.size w (wr.setCells (w.heap.size+1) 0 (Hd.cells ⟨k,o',y,s,bb,f,c1,r1,p1,q1,c2,r2,p2,q2⟩ (U (H ⟨A,0,G⟩) q q)))):=Y1 GW.o (Nat.le_succ _) _ _;clear ag CP HNS D0 D1 B0 B1 B2 DN G0 GW;go_wp2_with (first|(refine wpList_load_mid rfl _ (.tmp 1) rfl _ 0 rfl _ _ R0.o underlying48 rfl j3 ?_)|(refine wpList_store_mid rfl 48 (.tmp 2) (.tmp 34) rfl (w.heap.size+1) 0 _ rfl rfl T1.o j3 (Hd.one ⟨k,o',y,s,bb,f,c1,r1,p1,q1,c2,r2,p2,q2⟩ rfl) ?_));refine bodyPost_ret (results_cell_row rfl _ _ (w.heap.size+1) 48 _ (0,0) _ rfl E1.o underlying48 rfl j3) rfl ?_;exact⟨_,rfl,⟨_,OW.o⟩,BW.o⟩
theorem j9O (N:Nat):∀(t:Nd) (sl:Value) (F:Nat->Prop) (w:World),t.size<=N->t.size<=1048576->t.ok->NdIn w F sl t ->
 Calls prog 66 #[t.hd.val sl] w fun e w'=>∃sl' fp,e=Q ((cpy t).hd.val sl')/\Own w' w.heap.size sl' (cpy t) fp/\Below w.heap.size w w':=by
 induction N with
 | zero=>intro t sl F w h;have:=L7 t;omega
 | succ N ih=>
  intro t sl F w hN hm hok hin;obtain⟨h,ts⟩:=t;rw[NdIn] at hin;obtain⟨a,c,rfl,_,_,h4⟩:=hin;have hsz:(Nd.mk h ts).size=1+D3 ts:=by rw[Nd.size]
  have hln:=j0k ts;rw[cpy];by_cases hz:ts=[]
  ·subst hz;refine(j9T h hok.x a c w).mono ?_;rintro e w' ⟨rfl,hb⟩;exact⟨U G 0 0,[],rfl,⟨by rw[cpyL,D2];exact .inl ⟨rfl,rfl,rfl⟩,List.nodup_nil,fun b hb=>by simp at hb⟩,hb⟩
  ·obtain⟨b,o,rfl,_,hns⟩:∃b o,a=H ⟨b,o,G⟩/\F b/\F6 w F b o ts:=by
    rcases h4 with q|q
    ·exact absurd q.1 hz
    ·exact q
   have hp:=List.length_pos_iff.2 hz;refine j9V h hok.x ts ts.length rfl hp (by omega) b o c F w hns ?_;intro i hi s1 wq hq;have h1:=Q4 ts i hi;exact ih _ s1 F wq (by omega) (by omega) (hok.l.get i hi) hq
theorem j2x (t:Nd)(sl:Value)(F:Nat->Prop)(w:World)(hm:t.size<=1048576)(hok:t.ok)(hin:NdIn w F sl t):
 Calls prog 66 #[t.hd.val sl] w fun e w'=>∃sl' fp,e=Q ((cpy t).hd.val sl')/\Own w' w.heap.size sl' (cpy t) fp/\Below w.heap.size w w':=
 j9O t.size t sl F w (Nat.le_refl _) hm hok hin
theorem j6s (pre mid post cs:List Value)(h:mid.length=cs.length):T4 (pre++mid++post).toArray pre.length cs=(pre++cs++post).toArray:=by
 apply Array.ext_getElem?
 intro i;rw[j2T _ _ _ _ (by simp;omega)];simp only[List.getElem?_toArray];by_cases h1:pre.length<=i/\i<pre.length+cs.length
 ·rw[if_pos h1,List.append_assoc,List.getElem?_append_right h1.1,List.getElem?_append_left (by omega)]
 ·rw[if_neg h1];by_cases h2:i<pre.length
  ·rw[List.append_assoc,List.append_assoc,List.getElem?_append_left h2,List.getElem?_append_left h2]
  ·rw[List.getElem?_append_right (by simp;omega),List.getElem?_append_right (by simp;omega)];simp only[List.length_append];rw[h]
theorem L8 {P:Program}{ops:Array Oper}{rest:List Oper}{op:Oper}{a:Act}{w:World}{am:Exit->Act->World->Prop}(hgd:op.guard=G)(ty:TypeId)(x y:Operand)(ho:op.op=.store ty x y)
 (b o:Nat) (pre mid post cs:List Value) (t:TypeId) (hb:Blk w b (pre++mid++post) t) (hpo:pre.length=o) (hml:mid.length=cs.length) (hx:a.eval x=an (H ⟨b,o,G⟩)) (hy:a.eval y=T cs.toArray)
 (hi:(P.info? ty).map (·.size)=H cs.length) (h1:cs.toArray.all (·.oneCell')=J)
 (h:∀W,Blk W b (pre++cs++post) t->Kp w W (fun i=>i=b)->wpList P ops am rest (a.put op.dst undef) W):wpList P ops am (op::rest) a w:=by
 subst hpo;have hb':w.heap[b]? = H (.cells (pre++mid++post).toArray t (0,0)):=hb;refine wpList_store_mid hgd ty x y ho b pre.length cs.toArray hx hy (J5 hb' _ _ (by simp;omega)) (by rw[hi];simp) h1 (h _ ?_ (O6 (fun i=>i=b) rfl _ _ _));have:=j08 cs.toArray.toList pre.length w _ hb';rw[List.toList_toArray,j6s pre mid post cs hml] at this;rw[List.toList_toArray];exact this
theorem D5 {P:Program}{ops:Array Oper}{rest:List Oper}{op:Oper}{a:Act}{w:World}{am:Exit->Act->World->Prop}(hgd:op.guard=G)(ty:TypeId)(x y:Operand)(ho:op.op=.store ty x y)
 (b:Nat) (old cs:List Value) (t:TypeId) (hb:Blk w b old t) (hml:old.length=cs.length) (hx:a.eval x=an (H ⟨b,0,G⟩)) (hy:a.eval y=T cs.toArray)
 (hi:(P.info? ty).map (·.size)=H cs.length) (h1:cs.toArray.all (·.oneCell')=J)
 (h:∀W,Blk W b cs t->Kp w W (fun i=>i=b)->wpList P ops am rest (a.put op.dst undef) W):wpList P ops am (op::rest) a w:=
 L8 hgd ty x y ho b 0 [] old [] cs t (by simpa using hb) rfl hml hx hy hi h1 (fun W hW=>h W (by simpa using hW))
def zHd:Hd:=⟨0,0,0,⟨#[]⟩,R,0,0,0,R,R,0,0,R,R⟩
def zNd:Nd:=.mk zHd []
theorem j1Y:zNd.ok:=by unfold zNd;rw[Nd.ok,okL];exact⟨by decide,trivial⟩
theorem j1X (w:World)(F:Nat->Prop):NdIn w F (U G 0 0) zNd:=by
 unfold zNd;rw[NdIn];exact⟨G,0,rfl,by simp,by unfold maxLen;omega,.inl ⟨rfl,.inl rfl⟩⟩
def I4 (t:Nd):Bool:=G8 t zNd
theorem jAY (t:Nd)(sl:Value)(F:Nat->Prop)(w:World)(hok:t.ok)(hin:NdIn w F sl t):
 Calls prog 84 #[t.hd.val sl] w fun e w'=>e=Q (E (I4 t))/\Gr w w':=by
 have H1:Hid (∀wq,Gr w wq->Calls prog 60 #[t.hd.val sl,T #[O I 0,O I 0,ap ao 0,aq ⟨#[]⟩,E R,O I 0,O I 0,O I 0,E R,E R,O I 0,O I 0,E R,E R,U G 0 0]] wq fun e w'=>e=Q (E (I4 t))/\Gr wq w'):=
  fun wq hq=>jEP t zNd sl (U G 0 0) F F wq hok j1Y (hin.gr hq) (j1X wq F)
 generalize I4 t=V at *;generalize t.hd=h at *;clear hin hok;go_enter func84,ntmps84;go_wp2_with fail;refine(H1.o _ ((Gr.refl _).alloc _ _)).mono ?_;rintro e w1 ⟨rfl,hg1⟩;have G1:Hid (Gr w w1):=((Gr.refl _).alloc _ _).trans hg1;clear hg1 H1;go_wp2_with fail;go_ret;exact⟨rfl,G1.o⟩
def Q1 (c:Ct) (u:Bool) (e:Int):Bool:=(c.k==0&&(J9 c.v&&I4 c.t))||(c.k==1&&(c.v.k != 0&&J8 c.v u&&I4 c.t))||(c.k==2&&(J9 c.v&&e==0))
def cpC (c:Ct):Ct:=⟨c.k,{ c.v with x:=one c.v.x },cpy c.t⟩
theorem D9:(prog.info? 50).map (·.size)=H 21:=by kernel_rfl
theorem Ct.one (c:Ct){sl:Value}(hs:sl.oneCell'=J):(#[O I c.k,O I c.v.k,ap ao c.v.x,aq c.v.s,E c.v.b,O I c.v.f,
 O I c.t.hd.k,O I c.t.hd.o,ap ao c.t.hd.x,aq c.t.hd.s,E c.t.hd.b,O I c.t.hd.f,O I c.t.hd.c1,O I c.t.hd.r1,E c.t.hd.p1,E c.t.hd.q1,O I c.t.hd.c2,O I c.t.hd.r2,E c.t.hd.p2,E c.t.hd.q2,sl]:Array Value).all (·.oneCell')=J:=by
 simpa [Value.oneCell'] using hs
theorem J4 {w:World}{b:Nat}{pre l post:List Value}{t:TypeId}{fr:Nat×Nat}(hb:w.heap[b]? = H (.cells (pre++l++post).toArray t fr)):w.rangeAt b pre.length l:=by
 intro j v hj;rw[cell_of_row w b _ _ _ _ hb];have hlt:=(List.getElem?_eq_some_iff.1 hj).1;simp only[List.getElem?_toArray];rw[List.append_assoc,List.getElem?_append_right (by omega),Nat.add_sub_cancel_left,List.getElem?_append_left hlt];exact hj
theorem jDr (pre old new post:List Value)(h:old.length=new.length):T4 (pre++old++post).toArray pre.length new=(pre++new++post).toArray:=by
 apply Array.ext_getElem?
 intro i;rw[j2T _ _ _ _ (by simp;omega)];simp only[List.getElem?_toArray];by_cases h1:pre.length<=i/\i<pre.length+new.length
 ·rw[if_pos h1,List.append_assoc,List.getElem?_append_right h1.1,List.getElem?_append_left (by omega)]
 ·rw[if_neg h1];by_cases h2:i<pre.length
  ·rw[List.append_assoc,List.append_assoc,List.getElem?_append_left h2,List.getElem?_append_left h2]
  ·rw[List.getElem?_append_right (by simp;omega),List.getElem?_append_right (by simp;omega),List.length_append,List.length_append,h]
theorem j3B {w:World}{b:Nat}{pre old new post:List Value}{t:TypeId}(h:old.length=new.length)(hb:w.heap[b]? = H (.cells (pre++old++post).toArray t (0,0))):
 (w.setCells b pre.length new).heap[b]? = H (.cells (pre++new++post).toArray t (0,0)):=by
 rw[j08 _ _ _ _ hb,jDr _ _ _ _ h]
theorem j02 {P:Program}{ops:Array Oper}{rest:List Oper}{op:Oper}{a:Act}{w:World}{am:Exit->Act->World->Prop}(hgd:op.guard=G)(ty:TypeId)(x y:Operand)(ho:op.op=.store ty x y)
 (b o:Nat) (cells:Array Value) (hx:a.eval x=an (H ⟨b,o,G⟩)) (hy:a.eval y=T cells)
 (ht:w.there b o cells.size) (hi:(P.info? ty).map (·.size)=H cells.size) (h1:cells.all (·.oneCell')=J) (W3:World) (hW:w.setCells b o cells.toList=W3)
 (h:wpList P ops am rest (a.put op.dst undef) W3):wpList P ops am (op::rest) a w:=
 wpList_store_mid hgd ty x y ho b o cells hx hy ht hi h1 (by rw[hW];exact h)
@[go_sem] theorem jF7 (a c d f:Value) (y:Nat) (w:World):(Instr.field 43 (T #[a,ap ao y,c,d,f]) 1).run prog w=.ok (ap ao y) w:=by
 unfold Instr.field;rw[Sem.run_bind,run_underlying underlying43 w];simp[part,asAgg,isAgg,run_underlying underlying41 w,Sem.run_bind]
theorem j0S (c:Ct)(sl:Value)(F:Nat->Prop)(w:World)(hx:c.v.x<18446744073709551616)(hm:c.t.size<=1048576)(hok:c.t.ok)(hin:NdIn w F sl c.t):
 Calls prog 47 #[c.val sl] w fun e w'=>∃sl' fp,e=Q ((cpC c).val sl')/\Own w' w.heap.size sl' (cpC c).t fp/\Below w.heap.size w w':=by
 have H1:=h_ (jBw c.v.x hx);have H2:Hid (∀wq,Below w.heap.size w wq->Calls prog 66 #[c.t.hd.val sl] wq fun e w'=>∃sl' fp,e=Q ((cpy c.t).hd.val sl')/\Own w' wq.heap.size sl' (cpy c.t) fp/\Below wq.heap.size wq w'):=
  fun wq hq=>j2x c.t sl F wq hm hok (hin.mono fun b hb hlt=>⟨hq.block b hlt,hb⟩)
 obtain⟨k,⟨vk,vx,vs,vb,vf⟩,t⟩:=c;unfold cpC;simp only at *;generalize Go.Proofs.YtecjfnkakodebaaGreatDoor.one vx=y at *;generalize cpy t=u at *;clear hin hok hx hm;go_enter func47,ntmps47;go_wp2_with fail;refine(H1.o _).mono ?_;rintro e w1 ⟨rfl,hg1⟩;have B0:Hid (w1.heap[w.heap.size]? = H (.cells #[O I k,O I vk,ap ao vx,aq vs,E vb,O I vf,O I t.hd.k,O I t.hd.o,ap ao t.hd.x,aq t.hd.s,E t.hd.b,O I t.hd.f,O I t.hd.c1,O I t.hd.r1,E t.hd.p1,E t.hd.q1,O I t.hd.c2,O I t.hd.r2,E t.hd.p2,E t.hd.q2,sl] 50 (0,0))):=by
  show _=_;rw[hg1.ext.block _ (by simp[World.size_alloc] <;> omega),heap_alloc2_old]
 have B1:Hid (w1.heap[w.heap.size+1]? = H (.cells #[O I 0,O I 0,ap ao 0,aq ⟨#[]⟩,E R,O I 0,O I 0,O I 0,ap ao 0,aq ⟨#[]⟩,E R,O I 0,O I 0,O I 0,E R,E R,O I 0,O I 0,E R,E R,U G 0 0] 50 (0,0))):=by
  show _=_;rw[hg1.ext.block _ (by simp[World.size_alloc]),heap_alloc2_new]
 have GW:=h_ ((((Below.refl _ _).alloc (Nat.le_refl _) _).alloc (by simp[World.size_alloc]) _).trans ((jAC hg1).mono (by simp[World.size_alloc];omega)));clear hg1 H1;have D0:Hid ((w1.setCell ⟨w.heap.size,2,G⟩ (ap ao y)).heap[w.heap.size]? = H (.cells #[O I k,O I vk,ap ao y,aq vs,E vb,O I vf,O I t.hd.k,O I t.hd.o,ap ao t.hd.x,aq t.hd.s,E t.hd.b,O I t.hd.f,O I t.hd.c1,O I t.hd.r1,E t.hd.p1,E t.hd.q1,O I t.hd.c2,O I t.hd.r2,E t.hd.p2,E t.hd.q2,sl] 50 (0,0))):=by
  show _=_;rw[heap_setCell_same w1 _ 2 _ _ _ B0.o]
  rfl
 have D1:Hid ((w1.setCell ⟨w.heap.size,2,G⟩ (ap ao y)).heap[w.heap.size+1]? = H (.cells #[O I 0,O I 0,ap ao 0,aq ⟨#[]⟩,E R,O I 0,O I 0,O I 0,ap ao 0,aq ⟨#[]⟩,E R,O I 0,O I 0,O I 0,E R,E R,O I 0,O I 0,E R,E R,U G 0 0] 50 (0,0))):=(heap_setCell_other w1 _ _ _ (by simp)).trans B1.o;have GW1:Hid (Below w.heap.size w (w1.setCell ⟨w.heap.size,2,G⟩ (ap ao y))):=GW.o.setCell (Nat.le_refl _) _;have c2:=cell_of_row w1 _ 2 _ _ _ B0.o;have f2:=frozen_of_row w1 _ 2 _ _ B0.o;have RF:=h_ (J4 (pre:=[O I k,O I vk,ap ao y,aq vs,E vb,O I vf]) (l:=t.hd.cells sl) (post:=[]) D0.o);clear B0 B1 GW;go_wp2_with (refine wpList_load_mid rfl _ (.tmp 10) rfl _ 6 rfl _ _ RF.o underlying48 rfl j3 ?_)
 refine(H2.o _ GW1.o).mono ?_;rintro e w2 ⟨sl',fp,rfl,hown,hbw⟩;have hsz:=(Array.getElem?_eq_some_iff.1 D1.o).1;have E0:=h_ ((hbw.block _ (by omega)).trans D0.o);have E1:=h_ ((hbw.block _ hsz).trans D1.o);have O1:=h_ hown.own.one;have F0:Hid ((w2.setCells w.heap.size 6 (u.hd.cells sl')).heap[w.heap.size]? = H (.cells #[O I k,O I vk,ap ao y,aq vs,E vb,O I vf,O I u.hd.k,O I u.hd.o,ap ao u.hd.x,aq u.hd.s,E u.hd.b,O I u.hd.f,O I u.hd.c1,O I u.hd.r1,E u.hd.p1,E u.hd.q1,O I u.hd.c2,O I u.hd.r2,E u.hd.p2,E u.hd.q2,sl'] 50 (0,0))):=j3B (pre:=[O I k,O I vk,ap ao y,aq vs,E vb,O I vf]) (old:=t.hd.cells sl) (new:=u.hd.cells sl') (post:=[]) rfl E0.o;have F1:Hid ((w2.setCells w.heap.size 6 (u.hd.cells sl')).heap[w.heap.size+1]? = H (.cells #[O I 0,O I 0,ap ao 0,aq ⟨#[]⟩,E R,O I 0,O I 0,O I 0,ap ao 0,aq ⟨#[]⟩,E R,O I 0,O I 0,O I 0,E R,E R,O I 0,O I 0,E R,E R,U G 0 0] 50 (0,0))):=(L5 (by omega) _ _ _).trans E1.o
 have T0:Hid (w2.there w.heap.size 6 15):=J5 E0.o _ _ (by simp);obtain⟨W3,hW3⟩:∃W3,w2.setCells w.heap.size 6 (u.hd.cells sl')=W3:=⟨_,rfl⟩;have HW3:=h_ hW3;rw[hW3] at F0 F1;have RC:Hid (W3.rangeAt w.heap.size 0 [O I k,O I vk,ap ao y,aq vs,E vb,O I vf,O I u.hd.k,O I u.hd.o,ap ao u.hd.x,aq u.hd.s,E u.hd.b,O I u.hd.f,O I u.hd.c1,O I u.hd.r1,E u.hd.p1,E u.hd.q1,O I u.hd.c2,O I u.hd.r2,E u.hd.p2,E u.hd.q2,sl']):=J4 (pre:=[]) (post:=[]) F0.o;have T1:Hid (W3.there (w.heap.size+1) 0 21):=J5 F1.o _ _ (by simp);have L1:=h_ (V9 (cs:=#[O I k,O I vk,ap ao y,aq vs,E vb,O I vf,O I u.hd.k,O I u.hd.o,ap ao u.hd.x,aq u.hd.s,E u.hd.b,O I u.hd.f,O I u.hd.c1,O I u.hd.r1,E u.hd.p1,E u.hd.q1,O I u.hd.c2,O I u.hd.r2,E u.hd.p2,E u.hd.q2,sl']) F1.o (by simp))
 have OW:Hid (Own (W3.setCells (w.heap.size+1) 0 [O I k,O I vk,ap ao y,aq vs,E vb,O I vf,O I u.hd.k,O I u.hd.o,ap ao u.hd.x,aq u.hd.s,E u.hd.b,O I u.hd.f,O I u.hd.c1,O I u.hd.r1,E u.hd.p1,E u.hd.q1,O I u.hd.c2,O I u.hd.r2,E u.hd.p2,E u.hd.q2,sl']) w.heap.size sl' u fp):=by
  refine⟨hown.own.mono (fun b hb=>?_),hown.nodup,fun b hb=>?_⟩
  ·have:=(hown.new b hb).1;rw[L5 (by omega),<- hW3,L5 (by omega)]
  ·rw[T6,<- hW3,T6];exact⟨by have:=(hown.new b hb).1;omega,(hown.new b hb).2⟩
 have BW:Hid (Below w.heap.size w (W3.setCells (w.heap.size+1) 0 [O I k,O I vk,ap ao y,aq vs,E vb,O I vf,O I u.hd.k,O I u.hd.o,ap ao u.hd.x,aq u.hd.s,E u.hd.b,O I u.hd.f,O I u.hd.c1,O I u.hd.r1,E u.hd.p1,E u.hd.q1,O I u.hd.c2,O I u.hd.r2,E u.hd.p2,E u.hd.q2,sl'])):=
  Y1 (hW3 ▸ Y1 (GW1.o.trans (hbw.mono (by omega))) (Nat.le_refl _) _ _) (Nat.le_succ _) _ _
 clear hW3 hown hbw H2 D0 D1 GW1 c2 f2 RF E0 E1 F0 F1 hsz;go_wp2_with (first|(refine j02 rfl 48 (.tmp 13) (.tmp 12) rfl w.heap.size 6 _ rfl rfl T0.o j3 (u.hd.one O1.o) W3 HW3.o ?_)|(refine wpList_load_mid rfl _ (.tmp 1) rfl _ 0 rfl _ _ RC.o underlying50 rfl D9 ?_)|(refine wpList_store_mid rfl 50 (.tmp 2) (.tmp 14) rfl (w.heap.size+1) 0 _ rfl rfl T1.o D9 (Ct.one ⟨k,⟨vk,y,vs,vb,vf⟩,u⟩ O1.o) ?_));refine bodyPost_ret (results_cell_row rfl _ _ (w.heap.size+1) 50 _ (0,0) _ rfl L1.o underlying50 rfl D9) rfl ?_;exact⟨_,_,rfl,OW.o,BW.o⟩
theorem j1B {o:Oper}{a:Act}{x:Operand}{b p:Nat}{w:World}(cs:List Value)(ho:o.op=.load 48 x)(hx:a.eval x=an (H ⟨b,p,G⟩))(hc:w.rangeAt b p cs)(hcs:cs.length=15):(execOp a.eval o).run prog w=.ok (.value (T cs.toArray)) w:=by
 unfold execOp;simp only[ho,hx,Instr.loadAt,Instr.sureAddr,Sem.run_bind,Sem.run_pure,Result.andThen_ok,run_loadVar_mid w b p 48 cs _ hc underlying48 rfl (by rw[hcs];exact j3)]
theorem j1K:∃i,prog.info? 48=H i/\i.zero=H (T #[O I 0,O I 0,ap ao 0,aq ⟨#[]⟩,E R,O I 0,O I 0,O I 0,E R,E R,O I 0,O I 0,E R,E R,U G 0 0])/\i.size=15/\i.bytes=128:=by
 have:=j5e;cases h:prog.info? 48 with
 | none=>rw[h] at this;cases this
 | some i=>
  rw[h] at this;have:=Option.some.inj this;simp only[Prod.mk.injEq] at this;exact⟨i,rfl,this.1,this.2.1,this.2.2⟩
structure OwAt (w wr:World) (ps zs:List Value) (h:Hd) (us:List Nd) (v:Value) (fp:List Nat):Prop where
 bel:Below w.heap.size w wr
 b1:Blk wr w.heap.size ps 48
 b2:Blk wr (w.heap.size+1) zs 48
 b3:Blk wr (w.heap.size+2) (h.cells v) 48
 own:Own wr (w.heap.size+3) v (.mk h us) fp
theorem OwAt.start {w:World}(ps zs:List Value)(h:Hd):OwAt w (((w.alloc (.cells ps.toArray 48)).alloc (.cells zs.toArray 48)).alloc (.cells (h.cells (U G 0 0)).toArray 48)) ps zs h [] (U G 0 0) []:=by
 refine⟨?_,?_,?_,?_,?_,?_,?_⟩
 ·exact(((Below.refl _ _).alloc (Nat.le_refl _) _).alloc (by simp[World.size_alloc]) _).alloc (by simp[World.size_alloc];omega) _
 ·exact((Blk.new w ps _).alloc _).alloc _
 ·have:=Blk.new (w.alloc (.cells ps.toArray 48)) zs 48;rw[World.size_alloc] at this;exact this.alloc _
 ·have:=Blk.new ((w.alloc (.cells ps.toArray 48)).alloc (.cells zs.toArray 48)) (h.cells (U G 0 0)) 48;rw[World.size_alloc,World.size_alloc] at this;exact this
 ·rw[D2];exact .inl ⟨rfl,rfl,rfl⟩
 ·exact List.nodup_nil
 ·intro b hb;simp at hb
theorem OwAt.lt {w wr:World}{ps zs:List Value}{h:Hd}{us:List Nd}{v:Value}{fp:List Nat}(q:OwAt w wr ps zs h us v fp):w.heap.size+3<=wr.heap.size:=q.b3.lt
theorem OwAt.step {w wr w2 w4:World}{ps zs:List Value}{h:Hd}{us:List Nd}{v:Value}{fp:List Nat}(q:OwAt w wr ps zs h us v fp)(hg:Below wr.heap.size wr w2){B:Nat}(hB:wr.heap.size<=B){sl:Value}{u:Nd}{f:List Nat}(hu:Own w2 B sl u f){xs:List Value}
 (hx:(w2.alloc (.cells (u.hd.cells sl).toArray 48)).ownsRow (w.heap.size+3) 48 15 v us.length xs) {g c:Nat}
 (ho:w4.ownsRow (w.heap.size+3) 48 15 (U (H ⟨g,0,G⟩) (us.length+1) c) (us.length+1) (xs++u.hd.cells sl)) (hgr:(w2.alloc (.cells (u.hd.cells sl).toArray 48)).grownBy w4 v.ownBlock) (ht:v.ownBlock=H g∨(w2.alloc (.cells (u.hd.cells sl).toArray 48)).heap.size<=g) :
 ∃fp',OwAt w (w4.setCell ⟨w.heap.size+2,14,G⟩ (U (H ⟨g,0,G⟩) (us.length+1) c)) ps zs h (us++[u]) (U (H ⟨g,0,G⟩) (us.length+1) c) fp':=by
 have hlt:=q.lt;have hg3:Below wr.heap.size wr (w2.alloc (.cells (u.hd.cells sl).toArray 48)):=hg.alloc hg.size _;have own3:=q.own.below hg3;have hu3:Own (w2.alloc (.cells (u.hd.cells sl).toArray 48)) (w.heap.size+3) sl u f:=(hu.below ((Below.refl _ _).alloc (Nat.le_refl _) _)).le (by omega);have hd:∀b∈f,b∉fp:=fun b hb hb'=>by
  have:=(hu.new b hb).1;have:=(q.own.new b hb').2;omega
 obtain⟨fp',ow4⟩:=own3.grow hx hu3 hd ho hgr ht h;have hrow:=fun i (hi:v.ownBlock=H i)=>(hx.lt i hi).1
 have hb4:∀i,i<w.heap.size+3->w4.heap[i]? = wr.heap[i]?:=fun i hi=>by
  rw[hgr.block i (by have:=hg3.size;omega) (fun e=>by have:=hrow i e.symm;omega)];exact hg3.block i (by omega)
 have ne:∀i,i≠w.heap.size+2->(w4.setCell ⟨w.heap.size+2,14,G⟩ (U (H ⟨g,0,G⟩) (us.length+1) c)).heap[i]? = w4.heap[i]?:=fun i hi=>heap_setCell_other w4 _ i _ hi
 have sz:(w4.setCell ⟨w.heap.size+2,14,G⟩ (U (H ⟨g,0,G⟩) (us.length+1) c)).heap.size=w4.heap.size:=by
  show (w4.heap.modify _ _).size=_;simp
 have b3':Blk w4 (w.heap.size+2) (h.cells v) 48:=(hb4 _ (by omega)).trans q.b3;refine⟨fp',⟨?_,?_,?_,?_,?_⟩⟩
 ·refine⟨?_,?_,?_,?_,?_⟩
  ·exact hgr.os.trans (hg3.os.trans q.bel.os)
  ·exact hgr.tape.trans (hg3.tape.trans q.bel.tape)
  ·exact hgr.output.trans (hg3.output.trans q.bel.output)
  ·rw[sz];have:=hgr.size;have:=hg3.size;omega
  ·intro i hi;rw[ne i (by omega),hb4 i (by omega)];exact q.bel.block i hi
 ·exact(ne _ (by omega)).trans ((hb4 _ (by omega)).trans q.b1)
 ·exact(ne _ (by omega)).trans ((hb4 _ (by omega)).trans q.b2)
 ·exact b3'.set 14 _
 ·refine⟨ow4.own.mono (fun b hb=>ne b (by have:=(ow4.new b hb).1;omega)),ow4.nodup,fun b hb=>?_⟩;rw[sz];exact ow4.new b hb
theorem j0F {w w':World}{B:Nat}{e:TypeId}{k:Nat}{v:Value}{n:Nat}{xs:List Value}(h:w.ownsRow B e k v n xs)(g:Below w.heap.size w w'):w'.ownsRow B e k v n xs:=
 h.kept ⟨g.os,g.tape,g.output,g.size,fun i hi _=>g.block i hi⟩ (row:=G) (by cases hv:v.ownBlock <;> simp)
theorem j1J (h:Hd){sl:Value}(hs:sl.oneCell'=J):∀u∈h.cells sl,u.oneCell'=J:=by
 intro u hu;have:=h.one hs;rw[Array.all_eq_true'] at this;exact this u (by simpa using hu)
theorem j2K (w:World)(cs:List Value)(t:TypeId)(o:Obj):((w.alloc (.cells cs.toArray t)).alloc o).rangeAt w.heap.size 0 cs:=by
 have:=((Blk.new w cs t).alloc o);intro j v hj;rw[Nat.zero_add];exact this.cell hj
theorem jCD (N:Nat):∀(t:Nd) (sl:Value) (F:Nat->Prop) (w:World),t.size<=N->t.size<=1048576->NdIn w F sl t ->
 Calls prog 128 #[t.hd.val sl] w fun e w'=>∃sl' fp,e=Q (t.hd.val sl')/\Own w' w.heap.size sl' t fp/\Below w.heap.size w w':=by
 induction N with
 | zero=>intro t sl F w h;have:=L7 t;omega
 | succ N ih=>
  intro t sl F w hN hm hin;obtain⟨h,ts⟩:=t;rw[NdIn] at hin;obtain⟨a,c,rfl,_,_,h4⟩:=hin;have hsz:Hid ((Nd.mk h ts).size=1+D3 ts):=by show _=_;rw[Nd.size]
  have HN:=h_ hN;have HM:=h_ hm;have IH:Hid (∀(t:Nd) (sl:Value) (F:Nat->Prop) (w:World),t.size<=N->t.size<=1048576->NdIn w F sl t ->
   Calls prog 128 #[t.hd.val sl] w fun e w'=>∃sl' fp,e=Q (t.hd.val sl')/\Own w' w.heap.size sl' t fp/\Below w.heap.size w w'):=ih
  have H4:=h_ h4;have hln:=j0k ts;have HLM:Hid (ts.length<=1048576):=by show _<=_;have:=hsz.o;omega
  clear ih hN hm h4 hln;simp only[Nd.hd];generalize hn:ts.length=n at *;have HL:=h_ hn;clear hn;obtain⟨W0,hW0⟩:=e_ ((((w.alloc (.cells (h.cells (U a n c)).toArray 48)).alloc (.cells [O I 0,O I 0,ap ao 0,aq ⟨#[]⟩,E R,O I 0,O I 0,O I 0,E R,E R,O I 0,O I 0,E R,E R,U G 0 0].toArray 48)).alloc (.cells (h.cells (U G 0 0)).toArray 48)));have OS:=OwAt.start (w:=w) (h.cells (U a n c)) [O I 0,O I 0,ap ao 0,aq ⟨#[]⟩,E R,O I 0,O I 0,O I 0,E R,E R,O I 0,O I 0,E R,E R,U G 0 0] h;rw[hW0] at OS;have HOS:=h_ OS;have RR:Hid (∀o,((w.alloc (.cells (h.cells (U a n c)).toArray 48)).alloc o).rangeAt w.heap.size 0 (h.cells (U a n c))):=fun o=>j2K w _ _ o
  clear OS;obtain⟨k,o',x,s,bb,f,c1,r1,p1,q1,c2,r2,p2,q2⟩:=h;have HW:=h_ hW0;clear hW0;obtain⟨i0,hi,hz0,hz1,hz2⟩:=j1K;go_enter func128,ntmps128;go_wp2_with (first|(refine wpList_load_mid rfl _ _ rfl _ _ rfl _ _ (RR.o _) underlying48 rfl j3 ?_)|(refine F9 rfl _ _ _ rfl _ _ _ _ _ (by first|rfl|simp) rfl rfl rfl j3 (Hd.one ⟨k,o',x,s,bb,f,c1,r1,p1,q1,c2,r2,p2,q2⟩ rfl) ?_));rw[HW.o];clear HW RR;go_loopw[4] (fun i wr=>∃(q:Nat) (v:Value) (fp:List Nat),q<=n/\i=O I q/\OwAt w wr (Hd.cells ⟨k,o',x,s,bb,f,c1,r1,p1,q1,c2,r2,p2,q2⟩ (U a n c)) [O I 0,O I 0,ap ao 0,aq ⟨#[]⟩,E R,O I 0,O I 0,O I 0,E R,E R,O I 0,O I 0,E R,E R,U G 0 0] ⟨k,o',x,s,bb,f,c1,r1,p1,q1,c2,r2,p2,q2⟩ (ts.take q) v fp) (fun i _=>n-(RowKit.intOf i).toNat)
  case atStart=>exact⟨0,U G 0 0,[],Nat.zero_le _,rfl,by rw[List.take_zero];exact HOS.o⟩
  case round=>
   obtain⟨q,v,fp,hq,rfl,hat⟩:=hrel;have AT:=h_ hat;have hlt3:=hat.lt;have x14:=hat.b1.c_ 14 rfl;by_cases hlt:q<n
   ·have hqt:q<ts.length:=(by rw[HL.o];exact hlt);obtain⟨b,o,rfl,hFb,hns⟩:∃b o,a=H ⟨b,o,G⟩/\F b/\F6 w F b o ts:=by
     rcases H4.o with h|h
     ·rw[h.1] at hqt;simp at hqt
     ·exact h
    obtain⟨s1,hr,hni⟩:=hns.get q hqt;obtain⟨pv,lv,cv,rfl⟩:=j0l hat.own.own;obtain⟨xs,hxs⟩:=hat.own.row;have hul:Hid ((ts.take q).length=q):=(by show _=_;rw[List.length_take];omega);have hbw:=Q0 hr;have HS:Hid (∀wq,Below (w.heap.size+3) wr wq->wq.cell? ⟨w.heap.size,14,G⟩=H (U (H ⟨b,o,G⟩) n c)/\wq.cell? ⟨w.heap.size+2,14,G⟩=H (U pv lv cv)):=(fun wq hk=>⟨(hk.cell (by simp)).trans (hat.b1.cell rfl),(hk.cell (by simp)).trans (hat.b3.cell rfl)⟩);have HR:=(h_ fun wq (hk:Below (w.heap.size+3) wr wq)=>I7 hr ((hk.block b (by omega)).trans (hat.bel.block b hbw)));have hs1:=Q4 ts q hqt;have hni':=(fun wq (hk:Below wr.heap.size wr wq)=>hni.mono fun b hb hl=>⟨(hk.block b (by omega)).trans (hat.bel.block b hl),hb⟩);have HC:=h_ fun wq (hq:Below wr.heap.size wr wq)=>IH.o ts[q] s1 F wq (by have:=HN.o;have:=hsz.o;omega) (by have:=HM.o;have:=hsz.o;omega) (hni' wq hq)
    have hu3:Hid (ts.take (q+1)=ts.take q++[ts[q]]):=(by show _=_;rw[List.take_add_one,List.getElem?_eq_getElem hqt];rfl);have O1:=h_ hni.one;clear hs1 hni hni' hr hns;generalize ts[q]=u at *;generalize ts.take q=us at *;have hkb:(q:Int)+1<=9223372036854775807:=(by have:=HLM.o;omega);have hq0:(0:Int)<=(q:Int):=(by omega);have hqn:(q:Int)<(n:Int):=(by omega);have HX3:=(h_ fun w2 (h2:Below wr.heap.size wr w2) o=>(j0F hxs h2).alloc o);clear hat hxs;go_wp2_with fail;refine wp_region_noPanic ?_;refine j12 (fun w':World=>Below (w.heap.size+3) wr w') 11 (by kernel_rfl) ((Below.refl _ _).drew) (fun hHeld=>?_);refine tb 0 14 hHeld ?_ (hy:=by intro w' hSw;obtain⟨s0,s1⟩:=HS.o _ hSw;clear hSw;go_simp;try with_reducible rfl);refine tb 1 15 hHeld ?_ (hy:=by intro w' hSw;obtain⟨s0,s1⟩:=HS.o _ hSw;clear hSw;go_simp;try with_reducible rfl);refine tb 2 16 hHeld ?_ (hy:=by intro w' hSw;obtain⟨s0,s1⟩:=HS.o _ hSw;clear hSw;go_simp;try with_reducible rfl)
    refine tb 3 17 hHeld ?_ (hy:=by intro w' hSw;obtain⟨s0,s1⟩:=HS.o _ hSw;clear hSw;go_simp;try with_reducible rfl);refine tb 4 18 hHeld ?_ (hy:=by intro w' hSw;obtain⟨s0,s1⟩:=HS.o _ hSw;clear hSw;go_simp;try with_reducible rfl);refine tb 5 19 hHeld ?_ (hy:=by intro w' hSw;obtain⟨s0,s1⟩:=HS.o _ hSw;clear hSw;go_simp;try with_reducible rfl);refine tb 6 20 hHeld ?_ (v:=u.hd.val s1) (hy:=by exact fun w' hSw=>j1B (u.hd.cells s1) rfl rfl (HR.o w' hSw) rfl);refine I5 (i:=7) (by kernel_rfl) rfl rfl (fun K hK=>?_);go_simp;refine(HC.o _ ((Below.refl _ _).drew)).mono ?_;rintro e w2 ⟨su,fu,rfl,hown,hbl⟩;have hb2:=((Below.refl wr.heap.size wr).drew).trans hbl;have HB2:=h_ hb2;have HU:=h_ hown;refine hK.o _ _ (fun _=>hb2.mono hlt3) (fun _=>?_);clear hK K hHeld hown hbl HC HS HR x14;refine I5 (i:=8) (by kernel_rfl) rfl rfl (fun K hK=>?_);go_simp;refine hK.o _ _ (fun _=>(hb2.alloc hb2.size _).mono hlt3) (fun _=>?_)
    clear hK K;refine I5 (i:=9) (by kernel_rfl) rfl rfl (fun K hK=>?_);refine j0W _ (.tmp 15) (.tmp 22) 46 rfl (w.heap.size+3) 48 i0 _ 15 128 underlying46 hi hz0 hz1 hz2 rfl (by decide) (U pv lv cv) us.length xs rfl (HX3.o w2 HB2.o _) ⟨w2.heap.size,0,G⟩ 1 1 (u.hd.cells su) rfl rfl ?c1 ?c2 (by decide) ?c3 ?c4 ?c5 ?_
    case c1=>
     intro j u' hj;rw[R5,Nat.zero_add];exact(Blk.new w2 (u.hd.cells su) 48).cell hj
    case c2=>exact j1J u.hd HU.o.own.one
    case c3=>rw[hul.o];unfold maxLen;omega
    case c4=>rw[hul.o];have:=HLM.o;omega
    case c5=>have:=hb2.size;simp[World.size_alloc];omega
    intro g c' w4 ho hgr ht;obtain⟨fp',hat5⟩:=AT.o.step HB2.o (Nat.le_refl _) HU.o (HX3.o w2 HB2.o _) ho hgr ht;have h4b:Below (w.heap.size+3) wr w4:=by
     refine⟨hgr.os.trans hb2.os,hgr.tape.trans hb2.tape,hgr.output.trans hb2.output,?_,fun i hi=>?_⟩
     ·have h1:=hgr.size;have h2:=hb2.size;rw[World.size_alloc] at h1;omega
     ·rw[hgr.block i (by rw[World.size_alloc];have:=hb2.size;omega) (fun e=>by have:=((HX3.o w2 HB2.o (.cells #[] 0)).lt i e.symm).1;omega),Below.heap_alloc _ _ _ (by have:=hb2.size;omega)];exact hb2.block i (by omega)
    have A5:=h_ hat5;refine hK.o _ _ (fun _=>h4b) (fun hHeld=>?_);have f3:w4.frozen? ⟨w.heap.size+2,14,G⟩=R:=by
     have:Blk w4 (w.heap.size+2) _ 48:=(h4b.block _ (by omega)).trans AT.o.b3;exact this.froz _
    have c3:w4.cell? ⟨w.heap.size+2,14,G⟩=H (U pv lv cv):=by
     have:Blk w4 (w.heap.size+2) _ 48:=(h4b.block _ (by omega)).trans AT.o.b3;exact this.cell rfl
    clear hK K hat5 ho hgr ht h4b hb2;simp only[Act.put,List.setIfInBounds_toArray];refine I5 (i:=10) (by kernel_rfl) rfl rfl (fun K hK=>?_);go_simp;refine hK.o _ _ (fun _=>hHeld (by decide)) (fun _=>?_);clear hK K;refine I5 (i:=11) (by kernel_rfl) rfl rfl (fun K hK=>?_);go_simp;refine hK.o _ _ (fun h=>absurd rfl h) (fun _=>?_);clear hK K hHeld c3 f3;refine j10 (by kernel_rfl) ?_;refine NoPanic.normal ?_;go_wp2_with fail;go_roundw
    case rel=>exact⟨q+1,_,fp',by omega,by go_num,by rw[hu3.o];exact A5.o⟩
    case measure=>simp only[RowKit.intOf];omega
   ·have hqe:q=n:=(by omega);subst hqe;have hqn:¬((q:Int)<(q:Int)):=(by omega);have hall:ts.take q=ts:=(by rw[List.take_of_length_le (by rw[HL.o];exact Nat.le_refl _)]);have R3:Hid (wr.rangeAt (w.heap.size+2) 0 (Hd.cells ⟨k,o',x,s,bb,f,c1,r1,p1,q1,c2,r2,p2,q2⟩ v)):=(fun j u hj=>by rw[Nat.zero_add];exact hat.b3.cell hj);have T1:Hid (wr.there (w.heap.size+1) 0 15):=J5 hat.b2 _ _ (by simp);obtain⟨W5,hW5⟩:=e_ (wr.setCells (w.heap.size+1) 0 (Hd.cells ⟨k,o',x,s,bb,f,c1,r1,p1,q1,c2,r2,p2,q2⟩ v));have HW5:=h_ hW5;have E1:Hid (W5.heap[w.heap.size+1]? = H (.cells (Hd.cells ⟨k,o',x,s,bb,f,c1,r1,p1,q1,c2,r2,p2,q2⟩ v).toArray 48 (0,0))):=by
     show _=_;rw[<- hW5];exact V9 (cs:=(Hd.cells ⟨k,o',x,s,bb,f,c1,r1,p1,q1,c2,r2,p2,q2⟩ v).toArray) hat.b2 (by simp)
    have OW:Hid (Own W5 w.heap.size v (.mk ⟨k,o',x,s,bb,f,c1,r1,p1,q1,c2,r2,p2,q2⟩ (ts)) fp):=by
     show Own _ _ _ _ _;rw[<- hall,<- hW5];refine⟨hat.own.own.mono (fun b hb=>L5 (by have:=(hat.own.new b hb).1;omega) _ _ _),hat.own.nodup,fun b hb=>?_⟩;rw[T6];exact⟨by have:=(hat.own.new b hb).1;omega,(hat.own.new b hb).2⟩
    have BW:Hid (Below w.heap.size w W5):=by
     show Below _ _ _;rw[<- hW5];exact Y1 hat.bel (Nat.le_succ _) _ _
    have O1:=h_ hat.own.own.one;clear hat AT IH H4 HOS hW5 hall;go_wp2_with (first|(refine wpList_load_mid rfl _ _ rfl _ _ rfl _ _ R3.o underlying48 rfl j3 ?_)|(refine j02 rfl _ _ _ rfl _ _ _ rfl rfl T1.o j3 (Hd.one ⟨k,o',x,s,bb,f,c1,r1,p1,q1,c2,r2,p2,q2⟩ O1.o) W5 HW5.o ?_));refine bodyPost_ret (results_cell_row rfl _ _ (w.heap.size+1) 48 _ (0,0) _ rfl E1.o underlying48 rfl j3) rfl ?_;exact⟨_,rfl,⟨_,OW.o⟩,BW.o⟩
end Go.Proofs.YtecjfnkakodebaaGreatDoor
