/-MovePlays, MoveApart: what their cards want. -/
import Derived.Test.YtecjfnkakodebaaGreatDoorRmMoy
import Derived.Test.YtecjfnkakodebaaGreatDoorRmMwu
import Derived.Test.YtecjfnkakodebaaGreatDoorTie
import Derived.LaidMore
import Derived.Lay
import Derived.LaidOnce
import Derived.Stop.Joined
import Derived.Lib.LaidU8T
open Go.Proofs.Tryz
open Go.Value renaming int->O,bool->E,slice->U,float->ap,string->aq
open Go.IntKind renaming i64->I
open Option renaming some->H,none->G
open Bool renaming true->J
open Go.FloatKind renaming f64->ao
set_option maxRecDepth 100000
namespace Go.Proofs.YtecjfnkakodebaaGreatDoor
open Go.ChangeShapes Go.WideShapes Go.ChangeAt Go.RowKit Go.Deep
theorem ownK:ownKnob prog.godebug=G:=by kernel_rfl
theorem j1L:laidOutB prog=J:=by kernel_rfl
def T9:List (String×DataW Unit):=[("unicode/utf8.acceptRanges", Rows.laid_unicode_utf8_acceptRanges),("unicode/utf8.first", Rows.laid_unicode_utf8_first)]
theorem j9y:Rows.laid_unicode_utf8_first=Lib.firstData:=by kernel_rfl
theorem j7e:(Rows.laid_unicode_utf8_acceptRanges:DataW Unit)=Lib.acceptData:=by kernel_rfl
theorem u8x:U8Extra prog laysValid_ren:=⟨by kernel_rfl,by kernel_rfl,by kernel_rfl,by kernel_rfl,by kernel_rfl,by kernel_rfl,by kernel_rfl⟩
theorem j76 {W:World}(h:laidMetH prog T9 W):Lib.Utf8Tabs (laysValid_ren.g 3) (laysValid_ren.g 4) W:=by
 have h':laidMet prog T9 W:=by rw[MakeChecks.laidMetH_plain _ _ _ (by kernel_rfl)] at h;exact h
 obtain⟨ps,hl,_,_⟩:=h';refine utf8Tabs_of_readsT (U8Types.of196 laysValid) u8x ?_ ?_
 ·rw[<- j9y];exact Lib.LaidVars_reads hl _ _ (by simp[T9])
 ·rw[<- j7e];exact Lib.LaidVars_reads hl _ _ (by simp[T9])
section
variable {ag:Type} {enc:TypeId×Value->ag} {w:World} {base:Nat}
theorem jC6 {fuel:Nat}{l:List Value}{x:DataW ag×List MemPlace}(hl21:l.length=21)(hf':DataW.trod enc prog w base (fun _=>J) J fuel 50 l=H x)(hw:∀n∈x.1.weights prog 50,n<=reachBytes):
 ∃(c:Ct) (sl:Value),l=c.cells sl/\Cn w c sl/\c.t.txt/\c.v.s.size<=140737488355328/\c.t.size<=Rows.uptoBulk x.1:=by
 obtain⟨xs,n,rfl,hxe,_,hlen,hg⟩:=DataW.trod_struct underlying50 hf'
 match xs,hlen,l,hl21 with
 | [y0,y1,y2],_,[v0,v1,v2,v3,v4,v5,u0,u1,u2,u3,u4,u5,u6,u7,u8,u9,u10,u11,u12,u13,u14],_=>
  have g0:DataW.trod enc prog w base (fun _=>J) J n 3 [v0]=H y0:=by simpa [R6] using hg 0 _ rfl
  have g1':DataW.trod enc prog w base (fun _=>J) J n 43 [v1,v2,v3,v4,v5]=H y1:=by simpa [j98] using hg 1 _ rfl
  have g2':DataW.trod enc prog w base (fun _=>J) J n 48 [u0,u1,u2,u3,u4,u5,u6,u7,u8,u9,u10,u11,u12,u13,u14]=H y2:=by simpa [j2u] using hg 2 _ rfl
  obtain⟨k,rfl⟩:=Y3 g0;obtain⟨zs,n2,_,hze,_,hlen2,hz⟩:=DataW.trod_struct underlying43 g1'
  match zs,hlen2 with
  | [z0,z1,z2,z3,z4],_=>
   have k0:DataW.trod enc prog w base (fun _=>J) J n2 3 [v1]=H z0:=(by simpa [R6] using hz 0 _ rfl);have k1:DataW.trod enc prog w base (fun _=>J) J n2 41 [v2]=H z1:=(by simpa [j4W] using hz 1 _ rfl);have k2:DataW.trod enc prog w base (fun _=>J) J n2 9 [v3]=H z2:=(by simpa [j4a] using hz 2 _ rfl);have k3:DataW.trod enc prog w base (fun _=>J) J n2 4 [v4]=H z3:=(by simpa [j1h] using hz 3 _ rfl);have k4:DataW.trod enc prog w base (fun _=>J) J n2 3 [v5]=H z4:=(by simpa [R6] using hz 4 _ rfl);obtain⟨vk,rfl⟩:=Y3 k0;obtain⟨vx,e1,wf1⟩:=j7F k1;obtain⟨vs,e2,x2,_⟩:=DataW.trod_string underlying9 k2;obtain⟨vb,e3,_⟩:=DataW.trod_bool underlying4 k3;obtain⟨vf,rfl⟩:=Y3 k4;have f1:v2=ap ao vx:=(by simpa using e1);have f2:v3=aq vs:=(by simpa using e2);have f3:v4=E vb:=by simpa using e3
   subst f1 f2 f3;have hvs:vs.size<=140737488355328:=by
    have:=hw vs.data.toList.length (by rw[hxe];exact j0z (j:=1) (f:=43) (d:=y1.1) underlying50 rfl rfl _ (by rw[hze];exact j0z (j:=2) (f:=9) (d:=z2.1) underlying43 rfl rfl _ (by rw[x2,DataW.weights];simp)));have h2:vs.size=vs.data.toList.length:=(by simp);rw[h2];unfold reachBytes at this;omega
   obtain⟨t,sl,e,hin,hok,htx,hbk⟩:=jC7 n _ _ g2' (fun m hm=>hw m (by rw[hxe];exact j0z (j:=2) underlying50 rfl rfl m hm));have hb2:t.size<=Rows.uptoBulk x.1:=by
    have h8:Rows.uptoBulk y2.1<=Rows.uptoBulkAll ([y0,y1,y2].map (·.1)):=j05 (by simp);rw[hxe,Rows.uptoBulk];omega
   simp only[Hd.cells,List.cons.injEq,and_true] at e;obtain⟨rfl,rfl,rfl,rfl,rfl,rfl,rfl,rfl,rfl,rfl,rfl,rfl,rfl,rfl,rfl⟩:=e;exact⟨⟨k,⟨vk,vx,vs,vb,vf⟩,t⟩,u14,rfl,⟨hok,j53 wf1,hin⟩,htx,hvs,hb2⟩
theorem j2d {fuel:Nat}{v0 v1:Value}{x:DataW ag×List MemPlace}(h:DataW.trod enc prog w base (fun _=>J) J fuel 32 [v0,v1]=H x):
 ∃c r:Int,v0=O I c/\v1=O I r/\I64 c/\I64 r:=by
 obtain⟨y0,y1,n,_,_,h0,h1⟩:=trod_struct2 underlying32 h;simp only[R6,List.drop_zero,List.take_succ_cons,List.take_zero,List.drop_succ_cons] at h0 h1;obtain⟨c,e0,_,w0⟩:=DataW.trod_int underlying3 h0;obtain⟨r,e1,_,w1⟩:=DataW.trod_int underlying3 h1;simp at e0 e1;exact⟨c,r,e0,e1,bounds_i64 w0,bounds_i64 w1⟩
theorem j97:prog.cellsOf 52=23:=by kernel_rfl
instance:Inhabited (Cc×Value):=⟨(((0,0),ct0),U G 0 0)⟩
theorem j3Y {fuel:Nat}{a:Option Addr}{len cap:Nat}{x:DataW ag×List MemPlace}(h:DataW.trod enc prog w base (fun _=>J) J fuel 22 [U a len cap]=H x)(hw:∀n∈x.1.weights prog 22,n<=reachBytes)(hbk:Rows.uptoBulk x.1<=1048576):
 ∃xs:List (Cc×Value),j0O w (U a len cap) xs/\∀y∈xs,Sm24 y.1.2:=by
 rcases DataW.trod_slice underlying22 h with ⟨hcs,_⟩|⟨ad,len',cap',elems,rest,n,rfl,hcs,hxe,_,hl,hm,hel,hx,_,_⟩
 ·simp only[List.cons.injEq,Value.slice.injEq,and_true] at hcs;obtain⟨rfl,rfl,rfl⟩:=hcs;exact⟨[],⟨⟨_,_,rfl,fun h=>absurd h (Nat.lt_irrefl _)⟩,Nat.zero_le _,fun z hz=>by simp at hz⟩,fun z hz=>by simp at hz⟩
 ·simp only[List.cons.injEq,Value.slice.injEq,and_true] at hcs;obtain⟨rfl,rfl,rfl⟩:=hcs;rw[j97] at hx;have each:∀i,i<len->∃(cs:List Value) (y:DataW ag×List MemPlace),w.cells? base (ad.add (i*23)) 23=H cs/\DataW.trod enc prog w base (fun _=>J) J n 52 cs=H y/\y∈elems:=fun i hi=>by
   have h1:=hx i hi;rw[List.getElem?_eq_getElem (by omega)] at h1;obtain⟨cs',e1,e2⟩:=Option.bind_eq_some_iff.1 h1;exact⟨cs',_,e1,e2,List.getElem_mem _⟩
  rcases Nat.eq_zero_or_pos len with h0|h0
  ·subst h0;exact⟨[],⟨⟨_,_,rfl,fun h=>absurd h (Nat.lt_irrefl _)⟩,Nat.zero_le _,fun z hz=>by simp at hz⟩,fun z hz=>by simp at hz⟩
  have hsp:ad.spot=G:=by
   obtain⟨cs',y,e1,_⟩:=each 0 h0;obtain⟨_,hlen,hcell⟩:=World.cells?_some e1;have:=hcell 0 (by omega);rw[List.getElem?_eq_getElem (by omega)] at this
   simpa [Addr.add] using World.cell?_spot this
  obtain⟨b,o,sp⟩:=ad;simp only at hsp;subst hsp;obtain⟨A,hA,hAt⟩:=j2s (α:=Cc×Value) (len:=len) (p:=fun i y=>w.rangeAt b (o+i*23) (j8 y.1 y.2)/\Cn w y.1.2 y.2/\Sm24 y.1.2) (fun i hi=>by
   obtain⟨cs,y,e0,e3,hy⟩:=each i hi;obtain⟨_,e1,hcell⟩:=World.cells?_some e0;have e2:∀j,j<23->w.cell? ⟨b,o+i*23+j,G⟩=cs[j]?:=fun j hj=>by
    have:=hcell j hj;rw[add_plain,add_plain] at this;exact this
   have hwy:∀m∈y.1.weights prog 52,m<=reachBytes:=(fun m hm=>hw m (by rw[hxe];exact j7Q underlying22 (List.mem_map_of_mem hy) m hm));have hby:Rows.uptoBulk y.1<=1048576:=by
    have h8:Rows.uptoBulk y.1<=Rows.uptoBulkAll (elems.map (·.1)):=j05 (List.mem_map_of_mem hy);rw[hxe,Rows.uptoBulk] at hbk;omega
   obtain⟨y0,y1,n',hye,_,g0,g1⟩:=trod_struct2 underlying52 e3;simp only[j4U] at g0;simp only[j94] at g1;obtain⟨v0,v1,l,rfl⟩:∃v0 v1 l,cs=v0::v1::l:=by
    match cs,e1 with
    | v0::v1::l,_=>exact⟨v0,v1,l,rfl⟩
   have hl:l.length=21:=(by simpa using e1);have g1':DataW.trod enc prog w base (fun _=>J) J n' 50 l=H y1:=by
    have:((v0::v1::l).drop 2).take 21=l:=by
     show l.take 21=l;rw[<- hl,List.take_length]
    rw[this] at g1;exact g1
   obtain⟨c,r,rfl,rfl,_,_⟩:=j2d (by simpa using g0);have hwc:∀m∈y1.1.weights prog 50,m<=reachBytes:=(fun m hm=>hwy m (by rw[hye];exact j0z (j:=1) (f:=50) underlying52 rfl rfl m hm));obtain⟨ct,sl,rfl,hcn,htx,hvs,hcb⟩:=jC6 hl g1' hwc;have hcs:ct.t.size<=1048576:=by
    have h8:Rows.uptoBulk y1.1<=Rows.uptoBulkAll [y0.1,y1.1]:=j05 (by simp);rw[hye,Rows.uptoBulk] at hby
    omega
   refine⟨(((c,r),ct),sl),fun j u hu=>?_,hcn,⟨hcs,htx,hvs⟩⟩;have hj:j<23:=(by have:=(List.getElem?_eq_some_iff.1 hu).1;rw[j0U] at this;exact this);rw[e2 j hj];exact hu)
  subst hA;refine⟨A,⟨⟨_,cap,rfl,fun _=>⟨b,o,rfl,fun i y hy=>(hAt i y hy).1⟩⟩,by omega,fun z hz=>?_⟩,fun z hz=>?_⟩
  ·obtain⟨i,hi⟩:=List.mem_iff_getElem?.1 hz;exact(hAt i z hi).2.1
  ·obtain⟨i,hi⟩:=List.mem_iff_getElem?.1 hz;exact(hAt i z hi).2.2
theorem jEN {fuel:Nat}{v0:Value}{x:DataW ag×List MemPlace}(h:DataW.trod enc prog w base (fun _=>J) J fuel 3 [v0]=H x):∃c:Int,v0=O I c/\I64 c:=by
 obtain⟨c,e0,_,w0⟩:=DataW.trod_int underlying3 h;simp at e0;exact⟨c,e0,bounds_i64 w0⟩
theorem j4Z:prog.cellsOf 36=9:=by kernel_rfl
theorem j4V:prog.cellsOf 34=4:=by kernel_rfl
theorem j4T:prog.cellsOf 32=2:=by kernel_rfl
theorem j68 {fuel:Nat}{l:List Value}{x:DataW ag×List MemPlace}(hl9:l.length=9)(hf':DataW.trod enc prog w base (fun _=>J) J fuel 36 l=H x):∃z:St9,l=z.cells/\I64 z.x0:=by
 obtain⟨xs,n,rfl,_,_,hlen,hg⟩:=DataW.trod_struct underlying36 hf'
 match xs,hlen,l,hl9 with
 | [y0,y1,y2,y3,y4],_,[c0,c1,c2,c3,c4,c5,c6,c7,c8],_=>
  have g0:DataW.trod enc prog w base (fun _=>J) J n 3 [c0]=H y0:=by simpa [R6] using hg 0 _ rfl
  have g1:DataW.trod enc prog w base (fun _=>J) J n 3 [c1]=H y1:=by simpa [R6] using hg 1 _ rfl
  have g2:DataW.trod enc prog w base (fun _=>J) J n 3 [c2]=H y2:=by simpa [R6] using hg 2 _ rfl
  have g3:DataW.trod enc prog w base (fun _=>J) J n 34 [c3,c4,c5,c6]=H y3:=by simpa [R6,j4V] using hg 3 _ rfl
  have g4:DataW.trod enc prog w base (fun _=>J) J n 32 [c7,c8]=H y4:=by simpa [R6,j4V,j4T] using hg 4 _ rfl
  obtain⟨x0,rfl,i0⟩:=jEN g0;obtain⟨x1,rfl⟩:=Y3 g1;obtain⟨x2,rfl⟩:=Y3 g2;obtain⟨z0,z1,m,_,_,q0,q1⟩:=trod_struct2 underlying34 g3;simp only[j4T,List.drop_zero,List.take_succ_cons,List.take_zero,List.drop_succ_cons] at q0 q1;obtain⟨f1,f2,rfl,rfl,_,_⟩:=j2d q0;obtain⟨g1',g2',rfl,rfl,_,_⟩:=j2d q1;obtain⟨t1,t2,rfl,rfl,_,_⟩:=j2d g4;exact⟨⟨x0,x1,x2,((f1,f2),(g1',g2')),(t1,t2)⟩,rfl,i0⟩
instance:Inhabited St9:=⟨⟨0,0,0,((0,0),(0,0)),(0,0)⟩⟩
theorem jC9 {fuel:Nat}{v:Value}{x:DataW ag×List MemPlace}(h:DataW.trod enc prog w base (fun _=>J) J fuel 23 [v]=H x):∃xs:List St9,j44 w v xs:=by
 rcases DataW.trod_slice underlying23 h with ⟨hcs,_⟩|⟨a,len,cap,elems,rest,n,rfl,hcs,hxe,_,hl,hm,hel,hx,_,_⟩
 ·have hv:v=U G 0 0:=by simpa using hcs
  subst hv;exact⟨[],⟨G,0,rfl,fun h=>absurd h (Nat.lt_irrefl _)⟩,Nat.zero_le _,fun y hy=>by simp at hy⟩
 ·have hv:v=U (H a) len cap:=by simpa using hcs
  subst hv;rw[j4Z] at hx;have each:∀i,i<len->∃o:St9,∃cs',w.cells? base (a.add (i*9)) 9=H cs'/\cs'=o.cells/\I64 o.x0:=fun i hi=>by
   have h1:=hx i hi;rw[List.getElem?_eq_getElem (by omega)] at h1;obtain⟨cs',e1,e2⟩:=Option.bind_eq_some_iff.1 h1;obtain⟨_,hlen,_⟩:=World.cells?_some e1;obtain⟨o,e3,e4⟩:=j68 hlen e2;exact⟨o,cs',e1,e3,e4⟩
  rcases Nat.eq_zero_or_pos len with h0|h0
  ·subst h0;exact⟨[],⟨H a,cap,rfl,fun h=>absurd h (Nat.lt_irrefl _)⟩,Nat.zero_le _,fun y hy=>by simp at hy⟩
  ·have hsp:a.spot=G:=by
    obtain⟨o,cs',e1,e2,_⟩:=each 0 h0;obtain⟨_,hlen,hcell⟩:=World.cells?_some e1;have:=hcell 0 (by omega);rw[List.getElem?_eq_getElem (by omega)] at this
    simpa [Addr.add] using World.cell?_spot this
   obtain⟨b,o,sp⟩:=a;simp only at hsp;subst hsp;obtain⟨xs,hxs,hat⟩:=j2s each;subst hxs;refine⟨xs,⟨_,cap,rfl,fun _=>⟨b,o,rfl,fun i y hy=>?_⟩⟩,by omega,fun y hy=>?_⟩
   ·obtain⟨cs',e1,e2,_⟩:=hat i y hy;obtain⟨_,hlen,hcell⟩:=World.cells?_some e1;intro j u hu;rw[<- e2] at hu;have hj:j<9:=(by rw[<- hlen];exact(List.getElem?_eq_some_iff.1 hu).1);have:=hcell j hj;rw[add_plain,add_plain,hu] at this;exact this
   ·obtain⟨i,hi⟩:=List.mem_iff_getElem?.1 hy;obtain⟨_,_,_,q⟩:=hat i y hi;exact q
end
end Go.Proofs.YtecjfnkakodebaaGreatDoor
