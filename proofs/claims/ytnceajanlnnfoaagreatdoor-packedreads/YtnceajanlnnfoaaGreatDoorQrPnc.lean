/-The document's Put. -/
import Derived.Laws.AppendOwnNone
import Derived.Deep.CutBlock
import Derived.Deep.DeepCutAuto
import Derived.Test.YtnceajanlnnfoaaGreatDoorQrPqa
set_option maxRecDepth 20000
set_option maxHeartbeats 16000000
namespace Go.Proofs.YtnceajanlnnfoaaGreatDoor
open Go.RowKit Go.Maps Go.Sort Go.Lib Go.Shelf
structure DG (w:World) (B r:Nat) (v:Value) (ys:List (Cc×Value)):Prop where
 box:Blk w r [v] 54
 pts:Pts w B (fun _=>True) v ys
theorem DG.kp {w w':World}{B r:Nat}{v:Value}{ys:List (Cc×Value)}(h:DG w B r v ys)(k:Kp w w' Nul):DG w' B r v ys:=⟨h.box.kp k (fun x=>x),h.pts.kp k⟩
def rpE (V:Bool) (K:List Cc) (lo:Nat) (c s:Int) (ct:Ct):Nat:=if V=false then 1 else if vC c s=false then 20 else if ct.k≠0/\isK K lo (c,s)=false/\4096<=K.length then 41 else 0
def midC (c s:Int) (ct:Ct):List Cc:=if ct.k=0 then [] else [((c,s),cpC ct)]
theorem j5p {K:List Cc}{lo:Nat}{c s:Int}{ct:Ct}:rpE false K lo c s ct=1:=if_pos rfl
theorem j5q {K:List Cc}{lo:Nat}{c s:Int}{ct:Ct}(h:vC c s=false):rpE true K lo c s ct=20:=by unfold rpE;rw[if_neg (by decide),if_pos h]
theorem jDD {K:List Cc}{lo:Nat}{c s:Int}{ct:Ct}(h:vC c s=true)(h1:ct.k≠0)(h2:isK K lo (c,s)=false)(h3:4096<=K.length):rpE true K lo c s ct=41:=by unfold rpE;rw[if_neg (by decide),if_neg (by rw[h];decide),if_pos ⟨h1,h2,h3⟩]
theorem j5o {K:List Cc}{lo:Nat}{c s:Int}{ct:Ct}(h:vC c s=true)(h1:¬(ct.k≠0/\isK K lo (c,s)=false/\4096<=K.length)):rpE true K lo c s ct=0:=by unfold rpE;rw[if_neg (by decide),if_neg (by rw[h];decide),if_neg h1]
theorem j5m {w:World}{F:Nat->Prop}:∀ {ys:List (Cc×Value)},(∀y∈ys,NdIn w F y.2 y.1.2.t)->∀u∈rowP ys,u.oneCell'=true
 | [],_,u,hu=>by simp[rowP] at hu
 | y::ys,h,u,hu=>by
  rw[rowP] at hu;rcases List.mem_append.1 hu with hu|hu
  ·exact j0D y.1 (h y (by simp)).one u hu
  ·exact j5m (fun z hz=>h z (by simp[hz])) u hu
theorem j0I {w w':World}{B B' k n r:Nat}{t:TypeId}{v:Value}{xs:List Value}(h:w.ownsRow B' t k v n xs)(hB:B<=B')(hk:Kp w w' (fun i=>i=r))(hr:r<B'):w'.ownsRow B t k v n xs:=by
 refine⟨h.1,?_⟩;rcases h.2 with q|⟨g,c,cur,e,hb,hh,rest⟩
 ·exact .inl q
 ·exact .inr ⟨g,c,cur,e,Nat.le_trans hB hb,(hk.block g (Array.getElem?_eq_some_iff.1 hh).1 (fun e=>by have e':g=r:=e;omega)).trans hh,rest⟩
theorem j2e {w:World}{r n cp o:Nat}{p:Option Addr}{t:TypeId}{k:IntKind}{x:Int}(h:Blk w r [.slice p n cp] t)(hc:w.cell? ⟨r,o,none⟩=some (.int k x)):False:=by
 have e:=cell_of_row w r o _ _ _ h;rw[hc] at e;rcases o with _|o
 ·simp at e
 ·simp at e
theorem j1Y (ys:List (Cc×Value))(k:Nat):rowP ys=rowP (ys.take k)++rowP (ys.drop k):=by rw[<- j0n,List.take_append_drop]
theorem jDH (B r:Nat)(v:Value)(ys:List (Cc×Value))(K:List Cc)(c s:Int)(ct:Ct)(sl:Value)(V:Bool)(w:World)(hd:DG w B r v ys)(hK:ys.map (·.1)=K)(hB:B<=w.heap.size)(hn4:K.length<=4096)(hs:D7 (K.map (·.1)))
 (hV:∀wq,Kp w wq Nul->Calls Tryz.prog 62 #[ct.val sl] wq fun e w'=>e=.returned (.bool V)/\Kp wq w' Nul)
 (hC:V=true->∀wq,Kp w wq Nul->Calls Tryz.prog 65 #[ct.val sl] wq fun e w'=>∃sl' fp,e=.returned ((cpC ct).val sl')/\Own w' wq.heap.size sl' (cpC ct).t fp/\Kp wq w' Nul) (hone:sl.oneCell'=true) :
 Calls Tryz.prog 26 #[.pointer (some ⟨r,0,none⟩),.agg #[.int .i64 c,.int .i64 s],ct.val sl] w fun e w'=>∃lo v' ys',F6 K (c,s) lo/\e=.returned (.int .i64 (rpE V K lo c s ct:Nat))/\DG w' B r v' ys'/\ys'.map (·.1)=(if rpE V K lo c s ct=0 then insK K (c,s) lo (midC c s ct) else K)/\Kp w w' (fun i=>i=r):=by
 obtain⟨p,cp,rfl,hp⟩:=hd.pts.slice;obtain⟨n,hn⟩:∃n,ys.length=n:=⟨_,rfl⟩;have hKn:K.length=n:=by rw[<- hK,List.length_map,hn]
 obtain⟨W,hW⟩:∃W,(w.alloc (.cells #[.int .i64 c,.int .i64 s] 57)).alloc (.cells (ct.cells sl).toArray 66)=W:=⟨_,rfl⟩;have HW:Hid ((w.alloc (.cells #[.int .i64 c,.int .i64 s] 57)).alloc (.cells (ct.cells sl).toArray 66)=W):=hW;have kW:Kp w W Nul:=by rw[<- hW];exact((Kp.refl _ _).alloc _).alloc _
 have HCS:Hid (∀wq,Kp W wq Nul->Blk wq w.heap.size [.int .i64 c,.int .i64 s] 57):=fun wq k=>by
  have:Blk W w.heap.size [.int .i64 c,.int .i64 s] 57:=by rw[<- hW];exact(Blk.new w _ _).alloc _
  exact this.kp k (fun x=>x)
 have HCT:Hid (∀wq,Kp W wq Nul->Blk wq (w.heap.size+1) (ct.cells sl) 66):=fun wq k=>by
  have:Blk W (w.heap.size+1) (ct.cells sl) 66:=by
   have h:=Blk.new (w.alloc (.cells #[.int .i64 c,.int .i64 s] 57)) (ct.cells sl) 66;rw[World.size_alloc] at h;rw[<- hW];exact h
  exact this.kp k (fun x=>x)
 have HDG:Hid (∀wq,Kp W wq Nul->DG wq B r (.slice p ys.length cp) ys):=fun wq k=>hd.kp (kW.trans k)
 have HV:Hid (∀wq,Kp W wq Nul->Calls Tryz.prog 62 #[.agg (ct.cells sl).toArray] wq fun e w'=>e=.returned (.bool V)/\Kp wq w' Nul):=fun wq k=>hV wq (kW.trans k)
 have HVA:Hid (∀wq,Calls Tryz.prog 63 #[.agg #[.int .i64 c,.int .i64 s]] wq fun e w'=>e=.returned (.bool (vC c s))/\Kp wq w' Nul):=fun wq=>(j5P c s wq).mono fun e w' h=>⟨h.1,Kp.of_gr h.2⟩
 have HPl:Hid (∀wq,Kp W wq Nul->Calls Tryz.prog 64 #[.pointer (some ⟨r,0,none⟩),.agg #[.int .i64 c,.int .i64 s]] wq fun e w'=>(∃lo,e=.returned (.tuple #[.int .i64 (lo:Nat),.bool (isK K lo (c,s))])/\F6 K (c,s) lo)/\Kp wq w' Nul):=fun wq k0=>by
  refine jBk r n cp p K c s wq hKn (by omega) hs (fun wz k=>?_) (fun i x hx=>?_)
  ·have h:=(HDG.out wz (k0.trans k)).box.cell (i:=0) rfl;rw[hn] at h;exact h
  ·obtain⟨y,hy,e⟩:∃y,ys[i]? = some y/\y.1=x:=by
    rw[<- hK,List.getElem?_map] at hx;cases hy:ys[i]? with
    | none=>rw[hy] at hx;cases hx
    | some y=>rw[hy] at hx;injection hx with hx;exact⟨y,rfl,hx⟩
   obtain⟨b,e1,_,_⟩:=hp (by have:=(List.getElem?_eq_some_iff.1 hy).1;omega);refine⟨b,e1,fun wz k=>?_⟩;obtain⟨p',c',e2,hp'⟩:=(HDG.out wz (k0.trans k)).pts.slice;injection e2 with e3 _ e4;obtain⟨b',e5,_,hr⟩:=hp' (by have:=(List.getElem?_eq_some_iff.1 hy).1;omega);have hbb:b'=b:=(by rw[<- e3,e1] at e5;injection e5 with e5;injection e5 with e5;exact e5.symm);subst hbb;subst e;exact(j59 (hr i y hy)).1
 have HNul:Hid (∀wq,Kp W wq Nul->Kp w wq (fun i=>i=r)):=fun wq k=>(kW.trans k).of_nul
 have HO:Hid (sl.oneCell'=true):=hone;have HN:Hid (ys.length=n/\K.length=n/\n<=4096/\ys.map (·.1)=K):=⟨hn,hKn,by omega,hK⟩;have HCp:Hid (V=true->∀wq,Kp W wq Nul->Calls Tryz.prog 65 #[.agg (ct.cells sl).toArray] wq fun e w'=>∃sl' fp,e=.returned ((cpC ct).val sl')/\Own w' wq.heap.size sl' (cpC ct).t fp/\Kp wq w' Nul):=fun h wq k=>hC h wq (kW.trans k)
 have HBW:Hid (B<=W.heap.size/\w.heap.size<=W.heap.size):=⟨Nat.le_trans hB kW.size,kW.size⟩;have HSt:Hid (D7 (K.map (·.1))):=hs;clear hd hK hB hn4 hs hV hC hone hW kW hp hn hKn;go_enter Tryz.func26,Tryz.ntmps26;go_wp2_with (first
  | (rw[HW.out])
  | (refine Y0 rfl (.tmp 5) rfl (w.heap.size+1) rfl (ct.cells sl).toArray (HCT.out _ (Kp.refl W Nul)) rfl ?_)
  | fail)
 refine(HV.out W (Kp.refl _ _)).mono ?_;rintro e w1 ⟨rfl,k1⟩;have K1:Hid (Kp W w1 Nul):=k1;clear k1 HV HW;have zc:=HCS.out w1 K1.out;have y0:=zc.cell (i:=0) rfl;have y1:=zc.cell (i:=1) rfl;clear zc;go_wp2_with fail;refine(HVA.out w1).mono ?_;rintro e w2 ⟨rfl,k2⟩;have K2:Hid (Kp W w2 Nul):=K1.out.trans k2;clear k2 y0 y1 K1 HVA;have zc:=HCS.out w2 K2.out;have y0:=zc.cell (i:=0) rfl;have y1:=zc.cell (i:=1) rfl;clear zc;go_wp2_with fail;refine(HPl.out w2 K2.out).mono ?_;rintro e w3 ⟨⟨lo,rfl,hpl⟩,k3⟩;have K3:Hid (Kp W w3 Nul):=K2.out.trans k3;have HP:Hid (F6 K (c,s) lo):=hpl;obtain⟨I,hI⟩:∃I,isK K lo (c,s)=I:=⟨_,rfl⟩;have HI:Hid (isK K lo (c,s)=I):=hI;obtain⟨VA,hVA⟩:∃VA,vC c s=VA:=⟨_,rfl⟩;have HVA:Hid (vC c s=VA):=hVA;rw[hI,hVA];clear k3 y0 y1 K2 HPl hpl hI hVA;cases V with
 | false=>
  go_wp2_with fail;go_ret;refine⟨lo,_,_,HP.out,?_,HDG.out w3 K3.out,?_,HNul.out _ K3.out⟩
  ·rw[j5p];rfl
  ·rw[j5p,if_neg (by decide)];exact HN.out.2.2.2
 | true=>
 cases VA with
 | false=>
  go_wp2_with fail;go_ret;refine⟨lo,_,_,HP.out,?_,HDG.out w3 K3.out,?_,HNul.out _ K3.out⟩
  ·rw[j5q HVA.out];rfl
  ·rw[j5q HVA.out,if_neg (by decide)];exact HN.out.2.2.2
 | true=>
 obtain⟨kk,hkk⟩:∃kk,ct.k=kk:=⟨_,rfl⟩;have HKK:Hid (ct.k=kk):=hkk;have c0:w3.cell? ⟨w.heap.size+1,0,none⟩=some (.int .i64 kk):=by rw[<- hkk];exact(HCT.out w3 K3.out).cell rfl
 have r0:w3.cell? ⟨r,0,none⟩=some (.slice p n cp):=by have h:=(HDG.out w3 K3.out).box.cell (i:=0) rfl;rw[HN.out.1] at h;exact h
 clear hkk;by_cases hfull:kk≠0/\I=false/\4096<=n
 ·obtain⟨q1,q2,q3⟩:=hfull;have q1':(kk != 0)=true:=by simpa using q1
  have q3':(4096:Int)<=(n:Int):=by omega
  have HE:Hid (rpE true K lo c s ct=41):=jDD HVA.out (by rw[HKK.out];exact q1) (by rw[HI.out];exact q2) (by rw[HN.out.2.1];exact q3);subst q2;clear q1 q3;go_wp2_with fail;go_ret;refine⟨lo,_,_,HP.out,?_,HDG.out w3 K3.out,?_,HNul.out _ K3.out⟩
  ·rw[HE.out];rfl
  ·rw[HE.out,if_neg (by decide)];exact HN.out.2.2.2
 ·have HE:Hid (rpE true K lo c s ct=0):=j5o HVA.out (by rw[HKK.out,HI.out,HN.out.2.1];exact hfull);have HF:Hid (¬(kk≠0/\I=false/\4096<=n)):=hfull;clear hfull;go_upto_block 0 with fail;go_cut[22] (fun _ wx=>wx=w3)
  case first=>
   by_cases q1:kk=0
   ·subst q1;go_wp2_with fail;go_meet
    case rel=>rfl
   ·have q1':(kk != 0)=true:=(by simpa using q1);cases I with
    | true=>
     go_wp2_with fail;go_meet
     case rel=>rfl
    | false=>
     have q3:¬(4096:Int)<=(n:Int):=by
      have:=HF.out;intro h;exact this ⟨q1,rfl,by omega⟩
     go_wp2_with fail;go_meet
     case rel=>rfl
  case rest=>
   replace hcut:=hcut.symm;subst hcut;have HLo:Hid (lo<=n):=(by have:=HP.out.le;have:=HN.out.2.1;show _<=_;omega);obtain⟨i0,hi,hz0,hz1,hz2⟩:=j4d;rcases(HDG.out W (Kp.refl _ _)).pts.row.2 with ⟨e,h0⟩|⟨b,cq,cur,e,hbB,hbb,hcq,_⟩
   ·injection e with e1 e2 e3;subst e1;subst e3;have hys:ys=[]:=List.length_eq_zero_iff.1 e2;subst hys;have hK0:K=[]:=HN.out.2.2.2.symm;have hn0:n=0:=HN.out.1.symm;have hlo0:lo=0:=(by have:=HLo.out;omega);have hI0:I=false:=(by rw[<- HI.out,hK0];unfold isK;simp);clear e2 h0;subst hn0;subst hlo0;subst hI0;have HK0:Hid (K=[]):=hK0;have HSN:Hid (∀wq,Src Tryz.prog i0.size 22 (.slice none 0 0) 0 [] wq):=(fun wq=>Src.ofNil wq Tryz.underlying22 0);have HAP1:Hid ((Builtin.append_ #[22,22] 22 #[.slice none 0 0,.slice none 0 0]).run Tryz.prog w3=.ok (.slice none 0 0) w3):=run_append_nothing w3 22 22 22 68 i0 Tryz.underlying22 hi none 0 0 (Nat.le_refl _) _ (HSN.out w3);have HOWn:Hid (w3.ownsRow W.heap.size 68 23 (.slice none 0 0) 0 (rowP (([]:List (Cc×Value)).take 0))):=World.ownsRow_nil w3 W.heap.size _ _
    clear hK0
    go_upto_if 54 with (first
     | (at_builtin;refine j3C rfl (.tmp 44) (.tmp 50) 22 22 rfl (.slice none 0 0) (.slice none 0 0) (.slice none 0 0) w3 rfl rfl (by with_reducible exact HAP1.out) ?_)
     | fail)
    clear c0;go_cut[11] (fun v5 wx=>∃z:List (Cc×Value),wx.ownsRow W.heap.size 68 23 v5 z.length (rowP z)/\z.map (·.1)=midC c s ct/\(∀y∈z,NdIn wx (fun i=>¬v5.ownBlock=some i) y.2 y.1.2.t)/\Kp W wx Nul)
    case first=>
     by_cases q1:kk=0
     ·subst q1;have HM:Hid (midC c s ct=[]):=if_pos HKK.out;go_wp2_with fail;go_meet
      case rel=>exact⟨[],HOWn.out,HM.out.symm,fun y hy=>by simp at hy,K3.out⟩
     ·have q1':(kk != 0)=true:=(by simpa using q1);have HM:Hid (midC c s ct=[((c,s),cpC ct)]):=if_neg (by rw[HKK.out];exact q1);go_wp2_with fail;refine wp_region_noPanic ?_;refine F5 (fun w':World=>Kp W w' Nul) (by kernel_rfl) (K3.out.drew) (fun hHeld=>?_);refine j3 (i:=0) (v:=(Value.slice none 0 0)) (some 55) rfl rfl (by kernel_rfl) (fun _ _ _ h=>h) (Or.inl ⟨by rfl,?_⟩) hHeld ?_
      ·intro w' hSw;clear hSw;go_simp
      simp only[Act.put,Sz0,Sz1,Sz2];refine j3 (i:=1) (v:=.agg #[.int .i64 c,.int .i64 s]) (some 56) rfl rfl (by kernel_rfl) (fun _ _ _ h=>h) (Or.inl ⟨by rfl,fun w' hSw=>L3 57 (.tmp 4) rfl w.heap.size 0 rfl [.int .i64 c,.int .i64 s] _ (j0R (HCS.out w' hSw)) Tryz.underlying57 rfl F4⟩) hHeld ?_;simp only[Act.put,Sz0,Sz1,Sz2];refine j3 (i:=2) (v:=.agg (ct.cells sl).toArray) (some 57) rfl rfl (by kernel_rfl) (fun _ _ _ h=>h) (Or.inl ⟨by rfl,fun w' hSw=>U5 _ rfl rfl (HCT.out w' hSw) rfl⟩) hHeld ?_;simp only[Act.put,Sz0,Sz1,Sz2];refine D9 (i:=3) (by kernel_rfl) rfl rfl (fun K hK=>?_);go_simp;refine(HCp.out (by trivial) _ K3.out.drew).mono ?_;rintro e w5 ⟨sl5,fp5,rfl,ho5,hk2⟩;have KD:Hid (Kp w3 w5 Nul):=((Kp.refl w3 Nul).drew).trans hk2;have K5:Hid (Kp W w5 Nul):=K3.out.trans KD.out;have HO5:Hid (Own w5 w3.drew.heap.size sl5 (cpC ct).t fp5):=ho5;have O5:Hid (sl5.oneCell'=true):=ho5.own.one
      refine hK.out _ _ K5.out (fun hHeld=>?_);clear hK K hk2 ho5
      (try simp only[Act.put,Sz0,Sz1,Sz2])
      refine j3 (i:=4) (v:=.agg (j6 ((c,s),cpC ct) sl5).toArray) (some 59) rfl rfl (by kernel_rfl) (fun _ _ _ h=>h) (Or.inl ⟨by rfl,?_⟩) hHeld ?_
      ·intro w' hSw;clear hSw;go_simp;try rfl
      simp only[Act.put,Sz0,Sz1,Sz2];have HB5:Hid (Blk (w5.alloc (.cells (j6 ((c,s),cpC ct) sl5).toArray 68)) w5.heap.size (j6 ((c,s),cpC ct) sl5) 68):=Blk.new w5 _ _;have HRw:Hid ((w5.alloc (.cells (j6 ((c,s),cpC ct) sl5).toArray 68)).ownsRow W.heap.size 68 23 (Value.slice none 0 0) 0 (rowP (([]:List (Cc×Value)).take 0))):=(j0h HOWn.out (KD.out.alloc (.cells (j6 ((c,s),cpC ct) sl5).toArray 68)).below);refine D9 (i:=5) (by kernel_rfl) rfl rfl (fun K hK=>?_);go_simp;refine hK.out _ _ (K5.out.alloc _) (fun hHeld=>?_);clear hK K
      (try simp only[Act.put,Sz0,Sz1,Sz2])
      refine D9 (i:=6) (by kernel_rfl) rfl rfl (fun K hK=>?_);refine Z5 _ (.tmp 55) (.tmp 60) 22 rfl W.heap.size 68 i0 _ 23 200 Tryz.underlying22 hi hz0 hz1 hz2 rfl (by decide) (Value.slice none 0 0) 0 (rowP (([]:List (Cc×Value)).take 0)) rfl HRw.out ⟨w5.heap.size,0,none⟩ 1 1 (j6 ((c,s),cpC ct) sl5) rfl rfl ?d1 ?d2 (by decide) ?d3 ?d4 ?d5 ?_
      case d1=>
       intro j u hj;rw[Q0,Nat.zero_add];exact HB5.out.cell hj
      case d2=>exact j0D _ O5.out
      case d3=>have:=HLo.out;have:=HN.out.2.2.1;unfold maxLen;omega
      case d4=>have:=HLo.out;have:=HN.out.2.2.1;omega
      case d5=>exact(K5.out.alloc (.cells (j6 ((c,s),cpC ct) sl5).toArray 68)).size
      intro g6 c6 w6 hown6 hgrow6 ht6;have K6:Hid (Kp W w6 Nul):=Kp.of_below ((K5.out.alloc (.cells (j6 ((c,s),cpC ct) sl5).toArray 68)).below.grown hgrow6 (K5.out.alloc (.cells (j6 ((c,s),cpC ct) sl5).toArray 68)).size (fun q hq=>(HRw.out.lt q hq).1));have hkg:Kp (w5.alloc (.cells (j6 ((c,s),cpC ct) sl5).toArray 68)) w6 (fun i=>(Value.slice none 0 0).ownBlock=some i):=⟨hgrow6.os,hgrow6.tape,hgrow6.output,hgrow6.size,fun k hk hn=>hgrow6.block k hk (fun e=>hn e.symm)⟩;have HNd:Hid (NdIn w6 (fun i=>¬(Value.slice (some ⟨g6,0,none⟩) (0+1) c6).ownBlock=some i) sl5 (cpC ct).t):=((HO5.out.isIn.kp ((Kp.refl w5 Nul).alloc (.cells (j6 ((c,s),cpC ct) sl5).toArray 68)) (fun _ _ x=>x)).kp hkg (fun i hi e=>by have h1:=(HOWn.out.lt i e).2;have h2:w3.heap.size<=i:=hi.1;omega)).mono (fun b hb hl=>⟨rfl,fun e=>by
       have e':g6=b:=(by simpa [Value.ownBlock] using e);have hb1:w3.heap.size<=b:=hb.1;have hb2:=hb.2;rcases ht6 with q|q
       ·have:=(HOWn.out.lt g6 q).2;omega
       ·rw[World.size_alloc] at q;omega⟩)
      have HOW6:Hid (w6.ownsRow W.heap.size 68 23 (.slice (some ⟨g6,0,none⟩) (0+1) c6) (0+1) (rowP ([(((c,s),cpC ct),sl5)]))):=(by have h:=hown6;simp only[List.take_nil,rowP,List.nil_append] at h;show World.ownsRow _ _ _ _ _ _ _;simp only[rowP,List.append_nil];exact h);refine hK.out _ _ K6.out (fun hHeld=>?_);clear hK K hown6 hgrow6 hkg;show wpAnyH _ _ _ _ _ _ _ (Act.put _ (some 61) _) _;simp only[Act.put,Sz0,Sz1,Sz2];refine j3 (i:=7) (v:=.slice (some ⟨g6,0,none⟩) (0+1) c6) (some 11) rfl rfl (by kernel_rfl) (fun _ _ _ h=>h) (Or.inl ⟨by rfl,?_⟩) hHeld ?_
      ·intro w' hSw;clear hSw;go_simp
      simp only[Act.put,Sz0,Sz1,Sz2];refine wpAnyH_done (by kernel_rfl) ?_ _;refine NoPanic.normal ?_;go_wp2_with fail;go_meet
      case rel=>exact⟨[(((c,s),cpC ct),sl5)],HOW6.out,HM.out.symm,fun y hy=>by obtain rfl:=List.mem_singleton.1 hy;exact HNd.out,K6.out⟩
    case rest=>
     obtain⟨z,hz1',hz2',hz3',hz4'⟩:=hcut
     rename World=>w6
     have K6:Hid (Kp W w6 Nul):=hz4';have HOW:Hid (w6.ownsRow W.heap.size 68 23 u11 z.length (rowP z)):=hz1';have HZK:Hid (z.map (·.1)=midC c s ct):=hz2';have HZT:Hid (∀y∈z,NdIn w6 (fun i=>¬u11.ownBlock=some i) y.2 y.1.2.t):=hz3';obtain⟨pu,cu,hu11,hcu⟩:∃pu cu,u11=.slice pu z.length cu/\z.length<=cu:=by
      rcases hz1'.2 with ⟨q,q2⟩|⟨g7,c7,_,q,_,_,q2,_⟩
      ·rw[q2] at *;exact⟨_,_,q,Nat.le_refl _⟩
      ·exact⟨_,_,q,q2⟩
     have HAP2:Hid ((Builtin.append_ #[22,22] 22 #[.slice pu z.length cu,.slice none 0 0]).run Tryz.prog w6=.ok (.slice pu z.length cu) w6):=run_append_nothing w6 22 22 22 68 i0 Tryz.underlying22 hi pu z.length cu hcu _ (HSN.out w6);have r6:w6.cell? ⟨r,0,none⟩=some (.slice none 0 0):=(HDG.out w6 K6.out).box.cell (i:=0) rfl;have HRW:Hid (r<W.heap.size):=(HDG.out W (Kp.refl _ _)).box.lt;have HB6:Hid (Blk w6 r [.slice none 0 0] 54):=(HDG.out w6 K6.out).box;clear hz1' hz2' hz3' hz4' hcu r0;subst hu11;have f6:w6.frozen? ⟨r,0,none⟩=false:=HB6.out.froz 0;have HbY:Hid (Blk (w6.setCell ⟨r,0,none⟩ (.slice pu z.length cu)) r [.slice pu z.length cu] 54):=HB6.out.set 0 _;have HkY:Hid (Kp w6 (w6.setCell ⟨r,0,none⟩ (.slice pu z.length cu)) (fun i=>i=r)):=(Kp.refl w6 (fun i=>i=r)).setCell ⟨r,0,none⟩ _ (.inr rfl)
     go_upto_if 62 with fail
     go_wp2_with (first
      | (at_builtin;refine j3C rfl (.tmp 66) (.tmp 72) 22 22 rfl (.slice pu z.length cu) (.slice none 0 0) (.slice pu z.length cu) w6 rfl rfl (by with_reducible exact HAP2.out) ?_)
      | fail)
     have hbY:=HbY.out;have hkY:=HkY.out;go_ret;refine⟨0,HP.out,?_,_,z,⟨hbY,⟨j0I HOW.out HBW.out.1 hkY HRW.out,fun y hy=>((HZT.out y hy).mono (fun b hb hl=>⟨rfl,trivial⟩)).monoC fun b' hb' hc=>?_⟩⟩,?_,(HNul.out w6 K6.out).trans hkY⟩
     ·rw[HE.out];rfl
     ·obtain⟨o,q,x,hc⟩:=hc;refine⟨hkY.block b' (G7 hc) (fun e=>?_),trivial⟩;have e':b'=r:=e;subst e';exact j2e HB6.out hc
     ·rw[HE.out,if_pos rfl,HK0.out];unfold insK;rw[HZK.out];simp
   ·injection e with e1 e2 e3;subst e1;have hcn:n<=cp:=(by rw[<- HN.out.1,e3];exact hcq);have HCells:Hid (∀wq,Kp W wq Nul->∀j u,(rowP ys)[j]? = some u->wq.cell? ⟨b,j,none⟩=some u):=fun wq k j u hj=>by
     have h:=(HDG.out wq k).pts.row.cells (g:=b) rfl j u hj;rw[Q0,Nat.zero_add] at h;exact h
    have HOne:Hid (∀u∈rowP ys,u.oneCell'=true):=j5m (HDG.out W (Kp.refl _ _)).pts.tree;have hlc:(lo:Int)<=(cp:Int):=(by have:=HLo.out;omega);have HCN:Hid (n<=cp):=hcn;clear e2 e3 hbB hbb hcq hcn;go_wp2_with (at_builtin;refine wpList_append_own _ rfl (.tmp 44) (.tmp 50) 22 rfl W.heap.size 68 i0 _ 23 200 Tryz.underlying22 hi hz0 hz1 hz2 rfl (by decide) _ _ _ rfl (World.ownsRow_nil w3 W.heap.size _ _) ⟨b,0,none⟩ lo cp (rowP (ys.take lo)) rfl ?n1 ?n2 ?n3 ?n4 ?n5 ?n6 ?_)
    case n1=>rw[j1Z,List.length_take];have:=HLo.out;have:=HN.out.1;omega
    case n2=>
     intro j u hj;rw[Q0,Nat.zero_add];exact HCells.out _ K3.out j u (by rw[j1Y ys lo,List.getElem?_append_left (List.getElem?_eq_some_iff.1 hj).1];exact hj)
    case n3=>intro u hu;exact HOne.out u (by rw[j1Y ys lo];exact List.mem_append_left _ hu)
    case n4=>have:=HLo.out;have:=HN.out.2.2.1;unfold maxLen;omega
    case n5=>have:=HLo.out;have:=HN.out.2.2.1;omega
    case n6=>exact K3.out.size
    ·intro v4 w4 hown4 hgrow4 _;have K4:Hid (Kp W w4 Nul):=Kp.of_below (K3.out.below.grown hgrow4 K3.out.size (fun q hq=>by cases hq));have HOW4:Hid (w4.ownsRow W.heap.size 68 23 v4 lo (rowP (ys.take lo))):=hown4;clear hown4 hgrow4 c0 r0;have c0:w4.cell? ⟨w.heap.size+1,0,none⟩=some (.int .i64 kk):=by rw[<- HKK.out];exact(HCT.out w4 K4.out).cell rfl
     go_upto_if 54 with fail
     clear c0;go_cut[11] (fun v5 wx=>∃z:List (Cc×Value),wx.ownsRow W.heap.size 68 23 v5 (ys.take lo++z).length (rowP (ys.take lo++z))/\z.map (·.1)=midC c s ct/\(∀y∈z,NdIn wx (fun i=>¬v5.ownBlock=some i) y.2 y.1.2.t)/\Kp W wx Nul)
     case first=>
      have hlt:(ys.take lo).length=lo:=(by rw[List.length_take];have:=HLo.out;have:=HN.out.1;omega);by_cases q1:kk=0
      ·subst q1;have HM:Hid (midC c s ct=[]):=if_pos HKK.out;go_wp2_with fail;go_meet
       case rel=>exact⟨[],by rw[List.append_nil,hlt];exact HOW4.out,HM.out.symm,fun y hy=>by simp at hy,K4.out⟩
      ·have q1':(kk != 0)=true:=(by simpa using q1);have HM:Hid (midC c s ct=[((c,s),cpC ct)]):=if_neg (by rw[HKK.out];exact q1);go_wp2_with fail;refine wp_region_noPanic ?_;refine F5 (fun w':World=>Kp W w' Nul) (by kernel_rfl) (K4.out.drew) (fun hHeld=>?_);refine j3 (i:=0) (v:=v4) (some 55) rfl rfl (by kernel_rfl) (fun _ _ _ h=>h) (Or.inl ⟨by rfl,?_⟩) hHeld ?_
       ·intro w' hSw;clear hSw;go_simp
       simp only[Act.put,Sz0,Sz1,Sz2];refine j3 (i:=1) (v:=.agg #[.int .i64 c,.int .i64 s]) (some 56) rfl rfl (by kernel_rfl) (fun _ _ _ h=>h) (Or.inl ⟨by rfl,fun w' hSw=>L3 57 (.tmp 4) rfl w.heap.size 0 rfl [.int .i64 c,.int .i64 s] _ (j0R (HCS.out w' hSw)) Tryz.underlying57 rfl F4⟩) hHeld ?_;simp only[Act.put,Sz0,Sz1,Sz2];refine j3 (i:=2) (v:=.agg (ct.cells sl).toArray) (some 57) rfl rfl (by kernel_rfl) (fun _ _ _ h=>h) (Or.inl ⟨by rfl,fun w' hSw=>U5 _ rfl rfl (HCT.out w' hSw) rfl⟩) hHeld ?_;simp only[Act.put,Sz0,Sz1,Sz2];refine D9 (i:=3) (by kernel_rfl) rfl rfl (fun K hK=>?_);go_simp;refine(HCp.out (by trivial) _ K4.out.drew).mono ?_;rintro e w5 ⟨sl5,fp5,rfl,ho5,hk2⟩;have KD:Hid (Kp w4 w5 Nul):=((Kp.refl w4 Nul).drew).trans hk2;have K5:Hid (Kp W w5 Nul):=K4.out.trans KD.out;have HO5:Hid (Own w5 w4.drew.heap.size sl5 (cpC ct).t fp5):=ho5;have O5:Hid (sl5.oneCell'=true):=ho5.own.one
       refine hK.out _ _ K5.out (fun hHeld=>?_);clear hK K hk2 ho5
       (try simp only[Act.put,Sz0,Sz1,Sz2])
       refine j3 (i:=4) (v:=.agg (j6 ((c,s),cpC ct) sl5).toArray) (some 59) rfl rfl (by kernel_rfl) (fun _ _ _ h=>h) (Or.inl ⟨by rfl,?_⟩) hHeld ?_
       ·intro w' hSw;clear hSw;go_simp;try rfl
       simp only[Act.put,Sz0,Sz1,Sz2];have HB5:Hid (Blk (w5.alloc (.cells (j6 ((c,s),cpC ct) sl5).toArray 68)) w5.heap.size (j6 ((c,s),cpC ct) sl5) 68):=Blk.new w5 _ _;have HRw:Hid ((w5.alloc (.cells (j6 ((c,s),cpC ct) sl5).toArray 68)).ownsRow W.heap.size 68 23 v4 lo (rowP (ys.take lo))):=(j0h HOW4.out (KD.out.alloc (.cells (j6 ((c,s),cpC ct) sl5).toArray 68)).below);refine D9 (i:=5) (by kernel_rfl) rfl rfl (fun K hK=>?_);go_simp;refine hK.out _ _ (K5.out.alloc _) (fun hHeld=>?_);clear hK K
       (try simp only[Act.put,Sz0,Sz1,Sz2])
       refine D9 (i:=6) (by kernel_rfl) rfl rfl (fun K hK=>?_);refine Z5 _ (.tmp 55) (.tmp 60) 22 rfl W.heap.size 68 i0 _ 23 200 Tryz.underlying22 hi hz0 hz1 hz2 rfl (by decide) v4 lo (rowP (ys.take lo)) rfl HRw.out ⟨w5.heap.size,0,none⟩ 1 1 (j6 ((c,s),cpC ct) sl5) rfl rfl ?d1 ?d2 (by decide) ?d3 ?d4 ?d5 ?_
       case d1=>
        intro j u hj;rw[Q0,Nat.zero_add];exact HB5.out.cell hj
       case d2=>exact j0D _ O5.out
       case d3=>have:=HLo.out;have:=HN.out.2.2.1;unfold maxLen;omega
       case d4=>have:=HLo.out;have:=HN.out.2.2.1;omega
       case d5=>exact(K5.out.alloc (.cells (j6 ((c,s),cpC ct) sl5).toArray 68)).size
       intro g6 c6 w6 hown6 hgrow6 ht6;have K6:Hid (Kp W w6 Nul):=Kp.of_below ((K5.out.alloc (.cells (j6 ((c,s),cpC ct) sl5).toArray 68)).below.grown hgrow6 (K5.out.alloc (.cells (j6 ((c,s),cpC ct) sl5).toArray 68)).size (fun q hq=>(HRw.out.lt q hq).1));have hkg:Kp (w5.alloc (.cells (j6 ((c,s),cpC ct) sl5).toArray 68)) w6 (fun i=>v4.ownBlock=some i):=⟨hgrow6.os,hgrow6.tape,hgrow6.output,hgrow6.size,fun k hk hn=>hgrow6.block k hk (fun e=>hn e.symm)⟩;have HNd:Hid (NdIn w6 (fun i=>¬(Value.slice (some ⟨g6,0,none⟩) (lo+1) c6).ownBlock=some i) sl5 (cpC ct).t):=((HO5.out.isIn.kp ((Kp.refl w5 Nul).alloc (.cells (j6 ((c,s),cpC ct) sl5).toArray 68)) (fun _ _ x=>x)).kp hkg (fun i hi e=>by have h1:=(HOW4.out.lt i e).2;have h2:w4.heap.size<=i:=hi.1;omega)).mono (fun b hb hl=>⟨rfl,fun e=>by
        have e':g6=b:=(by simpa [Value.ownBlock] using e);have hb1:w4.heap.size<=b:=hb.1;have hb2:=hb.2;rcases ht6 with q|q
        ·have:=(HOW4.out.lt g6 q).2;omega
        ·rw[World.size_alloc] at q;omega⟩)
       have HOW6:Hid (w6.ownsRow W.heap.size 68 23 (.slice (some ⟨g6,0,none⟩) (lo+1) c6) (lo+1) (rowP (ys.take lo++[(((c,s),cpC ct),sl5)]))):=(by show World.ownsRow _ _ _ _ _ _ _;rw[jD8];exact hown6);refine hK.out _ _ K6.out (fun hHeld=>?_);clear hK K hown6 hgrow6 hkg;show wpAnyH _ _ _ _ _ _ _ (Act.put _ (some 61) _) _;simp only[Act.put,Sz0,Sz1,Sz2];refine j3 (i:=7) (v:=.slice (some ⟨g6,0,none⟩) (lo+1) c6) (some 11) rfl rfl (by kernel_rfl) (fun _ _ _ h=>h) (Or.inl ⟨by rfl,?_⟩) hHeld ?_
       ·intro w' hSw;clear hSw;go_simp
       simp only[Act.put,Sz0,Sz1,Sz2];refine wpAnyH_done (by kernel_rfl) ?_ _;refine NoPanic.normal ?_;go_wp2_with fail;go_meet
       case rel=>exact⟨[(((c,s),cpC ct),sl5)],by rw[List.length_append,hlt];exact HOW6.out,HM.out.symm,fun y hy=>by obtain rfl:=List.mem_singleton.1 hy;exact HNd.out,K6.out⟩
     case rest=>
      obtain⟨z,hz1',hz2',hz3',hz4'⟩:=hcut
      rename World=>w6
      have K6:Hid (Kp W w6 Nul):=hz4';have HOW:Hid (w6.ownsRow W.heap.size 68 23 u11 (ys.take lo++z).length (rowP (ys.take lo++z))):=hz1';have HZK:Hid (z.map (·.1)=midC c s ct):=hz2';have HZT:Hid (∀y∈z,NdIn w6 (fun i=>¬u11.ownBlock=some i) y.2 y.1.2.t):=hz3';obtain⟨lz,hlz⟩:∃lz,(ys.take lo++z).length=lz:=⟨_,rfl⟩;have HLZ:Hid ((ys.take lo++z).length=lz):=hlz;rw[hlz] at HOW;clear hlz;have HZL:Hid (z.length<=1):=by
       have h:=congrArg List.length hz2';rw[List.length_map] at h;show _<=_;rw[h];unfold midC;split <;> simp
      obtain⟨le,hle⟩:∃le,lo+(isK K lo (c,s)).toNat=le:=⟨_,rfl⟩;have HLE:Hid (lo+(isK K lo (c,s)).toNat=le):=hle;have HLN:Hid (le<=n):=by
       show _<=_;rw[<- hle];have h:=HLo.out;have h2:=HN.out.2.1;unfold isK;cases hq:K[lo]? with
       | none=>simp;exact h
       | some x=>
        have:=(List.getElem?_eq_some_iff.1 hq).1;simp only;cases decide (x.1=(c,s)) <;> simp <;> omega
      have hwl:wrap64 ((lo:Int)+1)=((lo+1:Nat):Int):=(by have:=HLo.out;have:=HN.out.2.2.1;unfold wrap64;omega);have HWL:Hid (wrap64 ((lo:Int)+1)=((lo+1:Nat):Int)):=hwl;have r6:w6.cell? ⟨r,0,none⟩=some (.slice (some ⟨b,0,none⟩) n cp):=(by have h:=(HDG.out w6 K6.out).box.cell (i:=0) rfl;rw[HN.out.1] at h;exact h);have hlen:(le:Int)<=(n:Int):=(by have:=HLN.out;omega);have hlec:(le:Int)<=(cp:Int):=(by have:=HLN.out;have:=HCN.out;omega);clear hz1' hz2' hz3' hz4' hle hwl
      go_upto_if 62 with fail
      go_cut[9] (fun x wx=>x=.int .i64 (le:Nat)/\wx=w6)
      case first=>
       cases I with
       | true=>
        have hl1:lo+1=le:=(by rw[<- HLE.out,HI.out];rfl);subst hl1;go_wp2_with fail;go_meet
        case rel=>exact⟨by rw[HWL.out],rfl⟩
       | false=>
        have hl1:lo=le:=(by rw[<- HLE.out,HI.out];rfl);subst hl1;go_wp2_with fail;go_meet
        case rel=>exact⟨rfl,rfl⟩
      case rest=>
       obtain⟨rfl,hwx⟩:=hcut;replace hwx:=hwx.symm;subst hwx;have hnews:(rowP (ys.drop le)).length=(n-le)*23:=(by rw[j1Z,List.length_drop,HN.out.1]);have htk:(rowP (ys.take le)).length=le*23:=(by rw[j1Z,List.length_take,HN.out.1,Nat.min_eq_left HLN.out]);have HDC:Hid (∀j u,(rowP (ys.drop le))[j]? = some u->w6.cell? ⟨b,le*23+j,none⟩=some u):=(fun j u hj=>HCells.out _ K6.out _ u (by rw[j1Y ys le,List.getElem?_append_right (by omega),htk,Nat.add_sub_cancel_left];exact hj));have HD1:Hid (∀u∈rowP (ys.drop le),u.oneCell'=true):=(fun u hu=>HOne.out u (by rw[j1Y ys le];exact List.mem_append_right _ hu));have HLL:Hid (lz+(n-le)<=8193):=by
        show _<=_;rw[<- HLZ.out,List.length_append,List.length_take];have:=HN.out.2.2.1;have:=HZL.out;have:=HLo.out;omega
       have HNW:Hid ((rowP (ys.drop le)).length=(n-le)*23):=hnews;have hrW:r<W.heap.size:=(HDG.out W (Kp.refl _ _)).box.lt;have HRW:Hid (r<W.heap.size):=hrW;have HB6:Hid (Blk w6 r [.slice (some ⟨b,0,none⟩) ys.length cp] 54):=(HDG.out w6 K6.out).box;have HT6:Hid (∀y∈ys,NdIn w6 (fun i=>i<W.heap.size) y.2 y.1.2.t):=fun y hy=>(((HDG.out W (Kp.refl _ _)).pts.tree y hy).monoC fun b hb hc=>by
        obtain⟨o,q,x,hc⟩:=hc;exact⟨rfl,G7 hc⟩).kp K6.out (fun _ _ x=>x)
       clear hnews htk hrW HCells HOne;by_cases hce:cp=le
       ·have HDE:Hid (ys.drop le=[]):=List.drop_eq_nil_of_le (by have:=HN.out.1;have:=HCN.out;have:=HLN.out;omega);go_wp2_with (first
         | (at_builtin;refine wpList_append_own _ rfl (.tmp 66) (.tmp 72) 22 rfl W.heap.size 68 i0 _ 23 200 Tryz.underlying22 hi hz0 hz1 hz2 rfl (by decide) _ _ _ rfl HOW.out ⟨b,0,none⟩ (n-le) 0 (rowP (ys.drop le)) rfl HNW.out ?n1 HD1.out ?n4 ?n5 ?n6 ?_)
         | fail)
        case n1=>intro j u hj;rw[HDE.out] at hj;simp[rowP] at hj
        case n4=>have:=HLL.out;unfold maxLen;omega
        case n5=>have:=HLL.out;omega
        case n6=>exact K6.out.size
        ·intro v7 w7 hown7 hgrow7 _;have K7:Hid (Kp W w7 Nul):=Kp.of_below (K6.out.below.grown hgrow7 K6.out.size (fun q hq=>(HOW.out.lt q hq).1));have k67:Kp w6 w7 (fun i=>u11.ownBlock=some i):=⟨hgrow7.os,hgrow7.tape,hgrow7.output,hgrow7.size,fun k hk hn=>hgrow7.block k hk (fun e=>hn e.symm)⟩;have HB7:Hid (Blk w7 r [.slice (some ⟨b,0,none⟩) ys.length cp] 54):=HB6.out.kp k67 (fun e=>by have h1:=(HOW.out.lt r e).1;have:=HRW.out;omega);have HO7:Hid (v7.oneCell'=true):=by rcases hown7.2 with ⟨rfl,_⟩|⟨_,_,_,rfl,_⟩ <;> rfl
         have HOW7:Hid (w7.ownsRow W.heap.size 68 23 v7 (ys.take lo++z++ys.drop le).length (rowP (ys.take lo++z++ys.drop le))):=by
          have h:=hown7;rw[<- j0n] at h;show World.ownsRow _ _ _ _ _ _ _;rw[show (ys.take lo++z++ys.drop le).length=lz+(n-le) by rw[List.length_append,List.length_drop,HN.out.1,HLZ.out]];exact h
         have HT7:Hid (∀y∈ys.take lo++z++ys.drop le,NdIn w7 (fun _=>True) y.2 y.1.2.t):=fun y hy=>by
          rcases List.mem_append.1 hy with hy|hy
          ·rcases List.mem_append.1 hy with hy|hy
           ·exact((HT6.out y (List.mem_of_mem_take hy)).kp k67 (fun i hi e=>by have h1:=(HOW.out.lt i e).1;omega)).mono (fun b hb hl=>⟨rfl,trivial⟩)
           ·exact((HZT.out y hy).kp k67 (fun i hi e=>hi e)).mono (fun b hb hl=>⟨rfl,trivial⟩)
          ·exact((HT6.out y (List.mem_of_mem_drop hy)).kp k67 (fun i hi e=>by have h1:=(HOW.out.lt i e).1;omega)).mono (fun b hb hl=>⟨rfl,trivial⟩)
         clear hown7 hgrow7 k67 r6;go_wp2_with (first
          | (refine j0u rfl 22 (.tmp 75) (.tmp 73) rfl r rfl v7 rfl HO7.out 54 _ HB7.out (by kernel_rfl) ?_;intro Y hbY hkY)
          | fail)
         go_ret;refine⟨lo,v7,ys.take lo++z++ys.drop le,HP.out,?_,⟨hbY,⟨j0I HOW7.out HBW.out.1 hkY HRW.out,fun y hy=>(HT7.out y hy).monoC fun b' hb' hc=>?_⟩⟩,?_,(HNul.out w7 K7.out).trans hkY⟩
         ·rw[HE.out];rfl
         ·obtain⟨o,q,x,hc⟩:=hc;refine⟨hkY.block b' (G7 hc) (fun e=>?_),trivial⟩;have e':b'=r:=e;subst e';exact j2e HB7.out hc
         ·rw[HE.out,if_pos rfl];unfold insK;rw[List.map_append,List.map_append,List.map_take,List.map_drop,HN.out.2.2.2,HZK.out,HLE.out,List.append_assoc]
       ·go_wp2_with (first
         | (at_builtin;refine wpList_append_own _ rfl (.tmp 66) (.tmp 72) 22 rfl W.heap.size 68 i0 _ 23 200 Tryz.underlying22 hi hz0 hz1 hz2 rfl (by decide) _ _ _ rfl HOW.out ⟨b,le*23,none⟩ (n-le) (cp-le) (rowP (ys.drop le)) rfl HNW.out ?n1 HD1.out ?n4 ?n5 ?n6 ?_)
         | fail)
        case n1=>intro j u hj;rw[Q0];exact HDC.out j u hj
        case n4=>have:=HLL.out;unfold maxLen;omega
        case n5=>have:=HLL.out;omega
        case n6=>exact K6.out.size
        ·intro v7 w7 hown7 hgrow7 _;have K7:Hid (Kp W w7 Nul):=Kp.of_below (K6.out.below.grown hgrow7 K6.out.size (fun q hq=>(HOW.out.lt q hq).1));have k67:Kp w6 w7 (fun i=>u11.ownBlock=some i):=⟨hgrow7.os,hgrow7.tape,hgrow7.output,hgrow7.size,fun k hk hn=>hgrow7.block k hk (fun e=>hn e.symm)⟩;have HB7:Hid (Blk w7 r [.slice (some ⟨b,0,none⟩) ys.length cp] 54):=HB6.out.kp k67 (fun e=>by have h1:=(HOW.out.lt r e).1;have:=HRW.out;omega);have HO7:Hid (v7.oneCell'=true):=by rcases hown7.2 with ⟨rfl,_⟩|⟨_,_,_,rfl,_⟩ <;> rfl
         have HOW7:Hid (w7.ownsRow W.heap.size 68 23 v7 (ys.take lo++z++ys.drop le).length (rowP (ys.take lo++z++ys.drop le))):=by
          have h:=hown7;rw[<- j0n] at h;show World.ownsRow _ _ _ _ _ _ _;rw[show (ys.take lo++z++ys.drop le).length=lz+(n-le) by rw[List.length_append,List.length_drop,HN.out.1,HLZ.out]];exact h
         have HT7:Hid (∀y∈ys.take lo++z++ys.drop le,NdIn w7 (fun _=>True) y.2 y.1.2.t):=fun y hy=>by
          rcases List.mem_append.1 hy with hy|hy
          ·rcases List.mem_append.1 hy with hy|hy
           ·exact((HT6.out y (List.mem_of_mem_take hy)).kp k67 (fun i hi e=>by have h1:=(HOW.out.lt i e).1;omega)).mono (fun b hb hl=>⟨rfl,trivial⟩)
           ·exact((HZT.out y hy).kp k67 (fun i hi e=>hi e)).mono (fun b hb hl=>⟨rfl,trivial⟩)
          ·exact((HT6.out y (List.mem_of_mem_drop hy)).kp k67 (fun i hi e=>by have h1:=(HOW.out.lt i e).1;omega)).mono (fun b hb hl=>⟨rfl,trivial⟩)
         clear hown7 hgrow7 k67 r6;go_wp2_with (first
          | (refine j0u rfl 22 (.tmp 75) (.tmp 73) rfl r rfl v7 rfl HO7.out 54 _ HB7.out (by kernel_rfl) ?_;intro Y hbY hkY)
          | fail)
         go_ret;refine⟨lo,v7,ys.take lo++z++ys.drop le,HP.out,?_,⟨hbY,⟨j0I HOW7.out HBW.out.1 hkY HRW.out,fun y hy=>(HT7.out y hy).monoC fun b' hb' hc=>?_⟩⟩,?_,(HNul.out w7 K7.out).trans hkY⟩
         ·rw[HE.out];rfl
         ·obtain⟨o,q,x,hc⟩:=hc;refine⟨hkY.block b' (G7 hc) (fun e=>?_),trivial⟩;have e':b'=r:=e;subst e';exact j2e HB7.out hc
         ·rw[HE.out,if_pos rfl];unfold insK;rw[List.map_append,List.map_append,List.map_take,List.map_drop,HN.out.2.2.2,HZK.out,HLE.out,List.append_assoc]
structure Al (L K:List Cc):Prop where
 st:D7 (K.map (·.1))
 mem:∀x,x∈K↔x∈L
 len:K.length=L.length
def rpK (V:Bool) (K:List Cc) (lo:Nat) (c s:Int) (ct:Ct):List Cc:=if rpE V K lo c s ct=0 then insK K (c,s) lo (midC c s ct) else K
theorem jAp (c s:Int)(ct:Ct):midC c s ct=[]∨∃a,midC c s ct=[((c,s),a)]:=by
 unfold midC;split
 ·exact .inl rfl
 ·exact .inr ⟨_,rfl⟩
theorem jDF {V:Bool}{K:List Cc}{lo:Nat}{c s:Int}{ct:Ct}(hs:D7 (K.map (·.1)))(hp:F6 K (c,s) lo):D7 ((rpK V K lo c s ct).map (·.1)):=by
 unfold rpK;split
 ·exact j9s hp hs _ (jAp c s ct)
 ·exact hs
theorem j58 (k:Int×Int):∀ {K:List Cc},D7 (K.map (·.1))->∃lo,F6 K k lo
 | [],_=>⟨0,Nat.le_refl _,fun j x hx _=>by simp at hx,fun j x hx _=>by simp at hx⟩
 | x::K,hs=>by
  have hs':=hs;unfold D7 at hs;rw[List.map_cons,List.pairwise_cons] at hs;cases hx:ltOf cfA x.1 k with
  | false=>
   refine⟨0,Nat.zero_le _,fun j y _ h=>by omega,fun j y hy _=>?_⟩;cases j with
   | zero=>
    rw[List.getElem?_cons_zero] at hy;injection hy with hy;rw[<- hy];exact hx
   | succ j=>
    rw[List.getElem?_cons_succ] at hy;have h1:=hs.1 y.1 (List.mem_map.2 ⟨y,List.mem_of_getElem? hy,rfl⟩);cases hq:ltOf cfA y.1 k with
    | false=>rfl
    | true=>rw[j03 h1 hq] at hx;cases hx
  | true=>
   obtain⟨lo,h1,h2,h3⟩:=j58 k (K:=K) hs.2;refine⟨lo+1,by rw[List.length_cons];omega,fun j y hy hj=>?_,fun j y hy hj=>?_⟩
   ·cases j with
    | zero=>
     rw[List.getElem?_cons_zero] at hy;injection hy with hy;rw[<- hy];exact hx
    | succ j=>
     rw[List.getElem?_cons_succ] at hy;exact h2 j y hy (by omega)
   ·cases j with
    | zero=>omega
    | succ j=>
     rw[List.getElem?_cons_succ] at hy;exact h3 j y hy (by omega)
theorem F6.uniq {K:List Cc}{k:Int×Int}{a b:Nat}(ha:F6 K k a)(hb:F6 K k b):a=b:=by
 rcases Nat.lt_trichotomy a b with h|h|h
 ·have hl:a<K.length:=Nat.lt_of_lt_of_le h hb.le;have e:=List.getElem?_eq_getElem hl;have h1:=hb.lt a _ e h;rw[ha.ge a _ e (Nat.le_refl _)] at h1;cases h1
 ·exact h
 ·have hl:b<K.length:=Nat.lt_of_lt_of_le h ha.le;have e:=List.getElem?_eq_getElem hl;have h1:=ha.lt b _ e h;rw[hb.ge b _ e (Nat.le_refl _)] at h1;cases h1
def dCf (b:List UInt8) (k:Nat) (s:Sd):Ct×Sd:=
 if k=1 then (⟨1,(dVl b s).1,zNd⟩,(dVl b s).2) else if k=2 then (⟨2,zVl,(dNd b 32 s).1⟩,(dNd b 32 s).2) else (⟨k,zVl,zNd⟩,(s.1,true))
def dCt (b:List UInt8) (s:Sd):Ct×Sd:=dCf b (dN b 1 s).1 (dN b 1 s).2
structure CW (b:List UInt8) (s:Sd) (a:Ct) (s':Sd):Prop where
 fw:Fw b s s'
 ok:a.t.ok
 txt:a.t.txt
 size:s.1<=b.length->s'.2=false->a.t.size<=b.length+1
 x:a.v.x<18446744073709551616
 sz:a.v.s.size<65536
 k:s'.2=false->a.k≠0
theorem jFQ:zNd.ok/\zNd.txt/\zNd.size<=1:=by
 refine⟨j6z.1,?_,?_⟩
 ·unfold zNd;rw[Nd.txt,txtL];exact⟨by decide,trivial⟩
 ·decide
theorem j3z (b:List UInt8)(k:Nat)(s:Sd):CW b s (dCf b k s).1 (dCf b k s).2:=by
 obtain⟨z1,z2,z3⟩:=jFQ;unfold dCf;split
 ·have h:=j95 b (dN b 1 s).1 (dN b 1 s).2;exact⟨(J0 b 1 s).trans (j94 b _ _),z1,z2,fun _ _=>by show zNd.size<=_;omega,h.1,h.2,fun _ e=>(by cases e)⟩
 split
 ·have h:=j45 b 32 s;exact⟨h.fw,h.ok,h.txt,fun q e=>by
   have h1:=h.size e;have h2:=h.fw.le q;show (dNd b 32 s).1.size<=_;omega,x_0.1,s_0,fun _ e=>(by cases e)⟩
 ·exact⟨(Fw.refl b s).spoil,z1,z2,fun _ e=>(by cases e),x_0.1,s_0,fun e=>(by cases e)⟩
theorem j9Z {a:Ct}(h:Gd a)(hk:a.k=2):a.t.fe false=0/\a.t.dep<=32:=by
 have hv:=h.val;unfold gv Q7 at hv;simp only[Bool.or_eq_true,Bool.and_eq_true,beq_iff_eq,bne_iff_ne] at hv;have hc:chk a.t=0:=by
  rcases hv with (q|q)|q
  ·omega
  ·omega
  ·exact q.2.2
 unfold chk at hc;by_cases h1:256<a.t.size
 ·rw[if_pos h1] at hc;cases hc
 rw[if_neg h1] at hc;by_cases h2:32<a.t.dep
 ·rw[if_pos h2] at hc;cases hc
 rw[if_neg h2] at hc;exact⟨hc,by omega⟩
theorem j91 {b l':List UInt8}{s:Sd}{a:Ct}(h:Gd a)(hd:DAt b s (ctB a++l')):(dCt b s).1=a/\DAt b (dCt b s).2 l':=by
 have hr:=j4S h l';unfold rCt rCtR at hr;obtain⟨⟨k,d⟩,e1,e2⟩:=Option.bind_eq_some_iff.1 hr;obtain⟨h1,h2⟩:=I6 hd e1;unfold dCt;rw[h1];simp only at e2;unfold dCf;split at e2
 ·rename_i hk
  rw[if_pos hk];obtain⟨⟨v,d1⟩,e3,e4⟩:=Option.map_eq_some_iff.1 e2;obtain⟨e5,e6⟩:=Prod.mk.inj e4;simp only at e5 e6;subst e6;obtain⟨h3,h4⟩:=j96 h2 e3;exact⟨by rw[h3];exact e5,h4⟩
 rename_i hk1
 rw[if_neg hk1];split at e2
 ·rename_i hk
  rw[if_pos hk];obtain⟨⟨t,f,d1⟩,e3,e4⟩:=Option.map_eq_some_iff.1 e2;obtain⟨e5,e6⟩:=Prod.mk.inj e4;simp only at e5 e6;subst e6;obtain⟨q1,_,q3⟩:=(Y7 256 (Nat.le_refl _)).1 e3;rw[q3] at h2;have hc:=j9Z h (by rw[<- e5]);have e7:a.t=t:=by rw[<- e5]
  rw[e7] at hc;obtain⟨h3,h4⟩:=j44 b 32 t false _ d1 hc.1 q1 hc.2 h2;exact⟨by rw[h3];exact e5,h4⟩
 ·cases e2
structure UI (b:List UInt8) (K:List Cc) (s:Sd) (la:Int×Int) (i:Nat):Prop where
 st:D7 (K.map (·.1))
 ok:Ok17 K
 all:∀K':List Cc,D7 (K'.map (·.1))->Ok17 K'->b=le 2 K'.length++csB K'->i<=K'.length/\K=K'.take i/\DAt b s (csB (K'.drop i))/\∀x∈K'.drop i,ltOf cfA la x.1=true
theorem j2X {b:List UInt8}{K:List Cc}(ho:Ok17 K)(e:b=le 2 K.length++csB K):(dN b 2 (0,false)).1=K.length/\DAt b (dN b 2 (0,false)).2 (csB K):=by
 have h0:DAt b (0,false) (le 2 K.length++csB K):=⟨rfl,Nat.zero_le _,by rw[List.drop_zero];exact e⟩;have hl:=ho.len;exact I6 h0 (E4.2 ⟨by omega,rfl⟩)
theorem UI.first (b:List UInt8):UI b [] (dN b 2 (0,false)).2 (0,0) 0:=
 ⟨List.Pairwise.nil,Ok17.nil,fun K' _ ho e=>⟨Nat.zero_le _,by rw[List.take_zero],by rw[List.drop_zero];exact(j2X ho e).2,fun x hx=>by
  rw[List.drop_zero] at hx;have:=ho.rng x hx;rw[j0T];omega⟩⟩
theorem UI.read {b:List UInt8}{K K':List Cc}{s:Sd}{la:Int×Int}{i:Nat}(h:UI b K s la i)(hs:D7 (K'.map (·.1)))(ho:Ok17 K')(e:b=le 2 K'.length++csB K')(hi:i<(dN b 2 (0,false)).1):
 ∃x:Cc,K'[i]? = some x/\x.1=(((dN b 2 s).1:Int),((dN b 2 (dN b 2 s).2).1:Int))/\(dCt b (dN b 2 (dN b 2 s).2).2).1=x.2/\DAt b (dCt b (dN b 2 (dN b 2 s).2).2).2 (csB (K'.drop (i+1)))/\K=K'.take i/\ltOf cfA la x.1=true:=by
 obtain⟨h1,h2,h3,h4⟩:=h.all K' hs ho e;rw[(j2X ho e).1] at hi;have hx:=List.getElem_mem hi;have hb:=ho.rng _ hx;have hg:=ho.gd _ hx;rw[List.drop_eq_getElem_cons hi] at h3;have h5:=h4 K'[i] (by rw[List.drop_eq_getElem_cons hi];exact List.mem_cons_self);obtain⟨x,hxe⟩:∃x,K'[i]=x:=⟨_,rfl⟩;rw[hxe] at h3 h5 hb hg;obtain⟨⟨ci,ri⟩,a⟩:=x;simp only at hb hg;obtain⟨c,rfl⟩:∃c:Nat,ci=(c:Int):=⟨ci.toNat,by omega⟩;obtain⟨r,rfl⟩:∃r:Nat,ri=(r:Int):=⟨ri.toNat,by omega⟩;have e1:csB ((((c:Int),(r:Int)),a)::K'.drop (i+1))=le 2 c++(le 2 r++(ctB a++csB (K'.drop (i+1)))):=by
  unfold csB;rw[List.flatMap_cons,j1u];unfold L2;simp only[List.append_assoc]
 rw[e1] at h3;obtain⟨g1,g2⟩:=I6 h3 (E4.2 ⟨by omega,rfl⟩);obtain⟨g3,g4⟩:=I6 g2 (E4.2 ⟨by omega,rfl⟩);obtain⟨g5,g6⟩:=j91 hg g4;exact⟨_,by rw[List.getElem?_eq_getElem hi,hxe],by rw[g1,g3],g5,g6,h2,h5⟩
theorem UI.bad {b:List UInt8}{K:List Cc}{s:Sd}{la:Int×Int}{i:Nat}(h:UI b K s la i)(hi:i<(dN b 2 (0,false)).1)(hb:(dCt b (dN b 2 (dN b 2 s).2).2).2.2=true)(t:Sd)(lb:Int×Int):UI b K t lb (i+1):=
 ⟨h.st,h.ok,fun K' hs ho e=>by
  obtain⟨x,_,_,_,h4,_⟩:=h.read hs ho e hi;rw[h4.ok] at hb;cases hb⟩
theorem j9q {K:List Cc}{k:Int×Int}{lo:Nat}(hp:F6 K k lo)(h:∀x∈K,ltOf cfA x.1 k=true)(mid:List Cc):isK K lo k=false/\insK K k lo mid=K++mid:=by
 have hlo:lo=K.length:=by
  rcases Nat.lt_or_ge lo K.length with q|q
  ·have h1:=hp.ge lo _ (List.getElem?_eq_getElem q) (Nat.le_refl _);rw[h _ (List.getElem_mem q)] at h1;cases h1
  ·have:=hp.le;omega
 have hi:isK K lo k=false:=by unfold isK;rw[hlo,List.getElem?_eq_none (Nat.le_refl _)]
 refine⟨hi,?_⟩;unfold insK;rw[hi,hlo,List.take_length,List.drop_eq_nil_of_le (by simp),List.append_nil]
theorem jDE {K:List Cc}{c r:Int}{lo:Nat}{a:Ct}(hp:F6 K (c,r) lo)(hs:D7 (K.map (·.1)))(h:Ok17 K)(hk:a.k≠0)(hok:a.t.ok)(hx:a.v.x<18446744073709551616):Ok17 (rpK (gv a) K lo c r a):=by
 unfold rpK;by_cases h0:rpE (gv a) K lo c r a=0
 ·rw[if_pos h0];unfold rpE at h0;by_cases q1:gv a=false
  ·rw[if_pos q1] at h0;cases h0
  rw[if_neg q1] at h0;by_cases q2:vC c r=false
  ·rw[if_pos q2] at h0;cases h0
  rw[if_neg q2] at h0;by_cases q3:a.k≠0/\isK K lo (c,r)=false/\4096<=K.length
  ·rw[if_pos q3] at h0;cases h0
  have q1':gv a=true:=by simpa using q1
  have q2':vC c r=true:=by simpa using q2
  have e2:midC c r a=[((c,r),cpC a)]:=if_neg hk;have hg:=Gd.of q1' hk hok hx (j4V q1');rw[e2];refine⟨fun x hx=>?_,fun x hx=>?_,?_⟩
  ·rcases(j4e hp hs _ x).1 hx with q|q
   ·exact h.gd x q.1
   ·rw[List.mem_singleton] at q;rw[q];exact hg
  ·rcases(j4e hp hs _ x).1 hx with q|q
   ·exact h.at' x q.1
   ·rw[List.mem_singleton] at q;rw[q];exact q2'
  ·rw[j9r hp];have hl:=h.len;cases hq:isK K lo (c,r) with
   | true=>simp only[List.length_cons,List.length_nil,Bool.toNat_true];omega
   | false=>
    have:¬4096<=K.length:=(fun q=>q3 ⟨hk,hq,q⟩);simp only[List.length_cons,List.length_nil,Bool.toNat_false];omega
 ·rw[if_neg h0];exact h
theorem UI.put {b:List UInt8}{K:List Cc}{s:Sd}{la:Int×Int}{i lo:Nat}{c r:Int}{a:Ct}{s':Sd}(h:UI b K s la i)(hi:i<(dN b 2 (0,false)).1)(hc:c=((dN b 2 s).1:Int))(hr:r=((dN b 2 (dN b 2 s).2).1:Int))(ha:(dCt b (dN b 2 (dN b 2 s).2).2).1=a)(hs':(dCt b (dN b 2 (dN b 2 s).2).2).2=s')
 (hb:s'.2=false) (hp:F6 K (c,r) lo):UI b (rpK (gv a) K lo c r a) (s'.1,!(decide (rpE (gv a) K lo c r a=0)&&ltOf cfA la (c,r))) (c,r) (i+1):=by
 have hw:=j3z b (dN b 1 (dN b 2 (dN b 2 s).2).2).1 (dN b 1 (dN b 2 (dN b 2 s).2).2).2;have hw':CW b (dN b 1 (dN b 2 (dN b 2 s).2).2).2 (dCt b (dN b 2 (dN b 2 s).2).2).1 (dCt b (dN b 2 (dN b 2 s).2).2).2:=hw;rw[ha,hs'] at hw';refine⟨jDF h.st hp,jDE hp h.st h.ok (hw'.k hb) hw'.ok hw'.x,fun K' hs ho e=>?_⟩;obtain⟨x,h1,h2,h3,h4,h5,h6⟩:=h.read hs ho e hi;rw[<- hc,<- hr] at h2;rw[ha] at h3;rw[hs'] at h4;have hx:=List.mem_of_getElem? h1;have hg:=ho.gd x hx;have hv:=ho.at' x hx;rw[<- h3] at hg;rw[h2] at hv h6;have hlt:∀y∈K,ltOf cfA y.1 (c,r)=true:=fun y hy=>by
  rw[h5] at hy;obtain⟨j,hj⟩:=List.mem_iff_getElem?.1 hy;rw[List.getElem?_take] at hj;split at hj
  ·rename_i hji
   have:=j0q hs hj h1 hji;rw[h2] at this;exact this
  ·cases hj
 obtain⟨g1,g2⟩:=j9q hp hlt [((c,r),a)];have hil:=(List.getElem?_eq_some_iff.1 h1).1;have hkl:K.length=i:=by rw[h5,List.length_take];omega
 have hlen:=ho.len;have e0:rpE (gv a) K lo c r a=0:=by
  rw[hg.val];exact j5o hv (fun q=>by have:=q.2.2;omega)
 have em:midC c r a=[((c,r),a)]:=by unfold midC;rw[if_neg hg.k,hg.cp]
 have ek:rpK (gv a) K lo c r a=K++[((c,r),a)]:=by unfold rpK;rw[if_pos e0,em,g2]
 have ex:K'[i]=((c,r),a):=by
  have e8:K'[i]=x:=(List.getElem?_eq_some_iff.1 h1).2;rw[e8,h3,<- h2]
 refine⟨hil,?_,?_,fun y hy=>?_⟩
 ·rw[ek,List.take_succ_eq_append_getElem hil,<- h5,ex]
 ·rw[e0,h6];refine⟨rfl,h4.le,h4.eq⟩
 ·obtain⟨j,hj⟩:=List.mem_iff_getElem?.1 hy;rw[List.getElem?_drop] at hj;have:=j0q hs h1 hj (by omega);rw[h2] at this;exact this
theorem j9L (K:List Cc):(ahB (D2 K)).drop 4=le 2 K.length++csB K:=by rw[(j2D K).1,j3X]
theorem j4y {l:List UInt8}(h:∀K',upO l=some K'->False)(he:upE l=0):upO l=none/\upR l=3:=by
 have e:upO l=none:=by
  cases hq:upO l with
  | none=>rfl
  | some K'=>exact(h K' hq).elim
 refine⟨e,?_⟩;unfold upR;rw[if_pos he,e]
 rfl
theorem UI.fin {l b:List UInt8}{K K':List Cc}{s:Sd}{la:Int×Int}{i:Nat}(h:UI b K s la i)(hb:b=(ahB l).drop 4)(hi:(dN b 2 (0,false)).1<=i∨s.2=true)(hu:upO l=some K'):K=K'/\s.2=false/\s.1=b.length/\l=D2 K'/\(D2 K').length<=4194304:=by
 obtain⟨e1,e2,e3,e4⟩:=j38 hu;have eb:b=le 2 K'.length++csB K':=by rw[hb,e1,j9L]
 obtain⟨g1,g2,g3,_⟩:=h.all K' e2 e3 eb;have hm:=(j2X e3 eb).1;have h1:i=K'.length:=by
  rcases hi with q|q
  ·omega
  ·rw[g3.ok] at q;cases q
 rw[h1,List.take_length] at g2;refine⟨g2,g3.ok,?_,e1,by rw[<- e1];exact e4⟩;have h5:=g3.len;rw[h1,List.drop_length] at h5;have h6:(csB ([]:List Cc)).length=0:=rfl;rw[h6] at h5;have h7:=g3.le;omega
theorem UI.no {l b:List UInt8}{K:List Cc}{s:Sd}{la:Int×Int}{i:Nat}(h:UI b K s la i)(hb:b=(ahB l).drop 4)(he:upE l=0)(hi:(dN b 2 (0,false)).1<=i∨s.2=true)(hn:s.2=true∨s.1≠b.length):upO l=none/\upR l=3:=
 j4y (fun K' hu=>by
  obtain⟨_,g2,g3,_⟩:=h.fin hb hi hu;rcases hn with q|q
  ·rw[g2] at q;cases q
  ·exact q g3) he
theorem UI.other {l b:List UInt8}{K:List Cc}{s:Sd}{la:Int×Int}{i:Nat}(h:UI b K s la i)(hb:b=(ahB l).drop 4)(he:upE l=0)(hi:(dN b 2 (0,false)).1<=i∨s.2=true)(hn:pkE K≠0∨pkS K≠l):upO l=none/\upR l=3:=
 j4y (fun K' hu=>by
  obtain⟨rfl,_,_,g4,g5⟩:=h.fin hb hi hu;unfold pkE pkS at hn;rw[if_pos g5,if_pos g5] at hn;rcases hn with q|q
  ·exact q rfl
  ·exact q g4.symm) he
theorem UI.yes {l b:List UInt8}{K:List Cc}{s:Sd}{la:Int×Int}{i:Nat}(h:UI b K s la i)(h0:pkE K=0)(h1:pkS K=l):upO l=some K/\upR l=0:=by
 unfold pkE at h0;unfold pkS at h1;by_cases hl:(D2 K).length<=4194304
 ·rw[if_pos hl] at h1;rw[<- h1];exact j6V h.st h.ok hl
 ·rw[if_neg hl] at h0;cases h0
end Go.Proofs.YtnceajanlnnfoaaGreatDoor
