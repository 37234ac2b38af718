/-The program's Put beside the document's: its error, and the two lists . -/
import Derived.Test.YtecjfnkakodebaaGreatDoorRmNvc
open Go.Proofs.Tryz
open Go.Value renaming int->O,bool->E,slice->U,agg->T,pointer->an,float->ap,string->aq,tuple->au
open Go.IntKind renaming i64->I
open Bool renaming false->R,true->J
open Option renaming some->H,none->G
open Go.Ending renaming returned->Q
open Go.FloatKind renaming f64->ao
set_option maxRecDepth 20000
set_option maxHeartbeats 16000000
namespace Go.Proofs.YtecjfnkakodebaaGreatDoor
section
open Go.RowKit Go.Maps Go.Sort Go.Lib Go.Shelf
structure Al (L K:List Cc):Prop where
 st:E9 (K.map (·.1))
 mem:∀x,x∈K↔x∈L
 len:K.length=L.length
theorem Al.nil:Al [] []:=⟨List.Pairwise.nil,fun _=>Iff.rfl,rfl⟩
theorem jBn {K:List Cc}(h:E9 (K.map (·.1))):K.Nodup:=by
 unfold E9 at h;rw[List.pairwise_map] at h;exact h.imp fun {a b} hab e=>by rw[e,j07] at hab;cases hab
theorem j3W {L:List Cc}(h:L.Pairwise (fun x y=>x.1≠y.1)):L.Nodup:=h.imp fun hab e=>hab (congrArg Prod.fst e)
theorem j2m {L L' K:List Cc}{k:Int×Int}{lo:Nat}(ha:Al L K)(hp:I8 K k lo)(mid:List Cc)(hm:mid=[]∨∃a,mid=[(k,a)])(ho:L'.Pairwise (fun x y=>x.1≠y.1))(hx:∀x,x∈L'↔(x∈L/\x.1≠k)∨x∈mid):Al L' (insK K k lo mid):=by
 have hs:=jAT hp ha.st mid hm;have hmm:∀x,x∈insK K k lo mid↔x∈L':=fun x=>by rw[jAS hp ha.st,hx,ha.mem]
 exact⟨hs,hmm,((List.perm_ext_iff_of_nodup (jBn hs) (j3W ho)).2 hmm).length_eq⟩
def rpK (V:Bool) (K:List Cc) (lo:Nat) (c s:Int) (ct:Ct):List Cc:=if rpE V K lo c s ct=0 then insK K (c,s) lo (midC c s ct) else K
theorem j5t (c s:Int)(ct:Ct):midC c s ct=[]∨∃a,midC c s ct=[((c,s),a)]:=by
 unfold midC;split
 ·exact .inl rfl
 ·exact .inr ⟨_,rfl⟩
theorem j6O (ah:Nat->Prop)(g:Nat)(c r:Int)(ct:Ct)(sl:Value)(F:Nat->Prop)(L K:List Cc)(lo:Nat)(w:World)(hG:j6 w ah g L)(hnew:∀i,w.heap.size<=i->ah i)(hL:Ok17 L)(ha:Al L K)(hp:I8 K (c,r) lo)(hok:ct.t.ok)(hx:ct.v.x<18446744073709551616)(hin:NdIn w F sl ct.t)(aj:VS w):
 Calls prog 11 #[an (H ⟨g,0,G⟩),T #[O I c,O I r],ct.val sl] w fun e w'=>∃L',e=Q (O I (rpE (gv ct) K lo c r ct:Nat))/\j6 w' ah g L'/\Ok17 L'/\Al L' (rpK (gv ct) K lo c r ct)/\Km g w w':=by
 have h:GI 0 w g L:=j6.mono hG (fun _ _=>Nat.zero_le _);obtain⟨mv,bg⟩:=h.blk;have hval:∀V,gv ct=V->∀wq,Kp w wq Nul->Calls prog 43 #[ct.val sl] wq fun e w'=>e=Q (E V)/\Kp wq w' Nul:=fun V hV wq k=>by subst hV;exact j1t ct sl F wq hok (hin.kp k (fun _ _ x=>x)) (aj.kp k)
 have hno:∀w' (er:Nat),Kp w w' Nul->er≠0->rpE (gv ct) K lo c r ct=er->∃L',Q (O I (er:Int))=Q (O I (rpE (gv ct) K lo c r ct:Nat))/\j6 w' ah g L'/\Ok17 L'/\Al L' (rpK (gv ct) K lo c r ct)/\Km g w w':=fun w' er k h0 he=>by
  have e2:rpK (gv ct) K lo c r ct=K:=if_neg (by rw[he];exact h0);rw[e2,he];exact⟨L,rfl,hG.kp k,hL,ha,Km.of_nul k bg.lt⟩
 cases hV:gv ct with
 | false=>
  refine(j2I g c r ct sl R w (fun e=>by cases e) (hval R hV)).mono ?_;rintro e w' ⟨rfl,k⟩;have:=hno w' 1 k (by decide) (by rw[hV];exact j3n);rw[hV] at this;exact this
 | true=>
  cases hC:vC c r with
  | false=>
   refine(j2I g c r ct sl J w (fun _=>hC) (hval J hV)).mono ?_;rintro e w' ⟨rfl,k⟩;have:=hno w' 20 k (by decide) (by rw[hV];exact j3o hC);rw[hV] at this;exact this
  | true=>
   by_cases hk:ct.k=0
   ·refine(j3e ah g c r hC ct hk sl L w hG (hval J hV)).mono ?_;rintro e w' ⟨rfl,h1,h2⟩;have e0:rpE J K lo c r ct=0:=j1W hC (fun q=>q.1 hk);have e1:rpK J K lo c r ct=insK K (c,r) lo (midC c r ct):=if_pos e0;rw[e0,e1];refine⟨_,rfl,h1,hL.del _,j2m ha hp _ (j5t c r ct) (show GI 0 w' g _ from j6.mono h1 (fun _ _=>Nat.zero_le _)).once (fun x=>?_),h2⟩;have e2:midC c r ct=[]:=if_pos hk;rw[Y4,e2];simp
   ·by_cases hroom:L.length<4096∨∃c',((c,r),c')∈L
    ·have hs:=jAH hV;refine(j3g ah g c r hC ct hk sl L w h hG hnew hL.len hroom (hval J hV) (fun wq k=>(j0S ct sl F wq hx hs hok (hin.kp k (fun _ _ x=>x))).mono (by
      rintro e w' ⟨sl',fp,h1,h2,h3⟩;exact⟨sl',fp,h1,h2,Kp.of_below h3⟩))).mono ?_
     rintro e w' ⟨rfl,h1,h2⟩;have e0:rpE J K lo c r ct=0:=j1W hC (fun q=>by
      rcases hroom with q1|⟨c',q1⟩
      ·have:=ha.len;omega
      ·have:=(j0C hp ha.st).2 ⟨c',(ha.mem _).2 q1⟩;rw[q.2.1] at this;cases this)
     have e1:rpK J K lo c r ct=insK K (c,r) lo (midC c r ct):=if_pos e0;rw[e0,e1];refine⟨_,rfl,h1,hL.put h.once hC (Gd.of hV hk hok hx hs) hroom,j2m ha hp _ (j5t c r ct) (show GI 0 w' g _ from j6.mono h1 (fun _ _=>Nat.zero_le _)).once (fun x=>?_),h2⟩;have e2:midC c r ct=[((c,r),cpC ct)]:=if_neg hk;rw[R8,e2,List.mem_singleton];exact Or.comm
    ·have hfull:4096<=L.length:=by
      rcases Nat.lt_or_ge L.length 4096 with q|q
      ·exact absurd (.inl q) hroom
      ·exact q
     refine(j3f 0 g c r hC ct hk sl L w h hfull (fun c' q=>hroom (.inr ⟨c',q⟩)) (hval J hV)).mono ?_;rintro e w' ⟨rfl,k⟩;have:=hno w' 41 k (by decide) (by
      rw[hV];refine j2S hC hk ?_ (by rw[ha.len];exact hfull);cases hi:isK K lo (c,r) with
      | false=>rfl
      | true=>
       obtain⟨a,q⟩:=(j0C hp ha.st).1 hi;exact absurd (.inr ⟨a,(ha.mem _).1 q⟩) hroom)
     rw[hV] at this;exact this
theorem j3a (k:Int×Int):∀ {K:List Cc},E9 (K.map (·.1))->∃lo,I8 K k lo
 | [],_=>⟨0,Nat.le_refl _,fun j x hx _=>by simp at hx,fun j x hx _=>by simp at hx⟩
 | x::K,hs=>by
  have hs':=hs;unfold E9 at hs;rw[List.map_cons,List.pairwise_cons] at hs;cases hx:ltOf cfA x.1 k with
  | false=>
   refine⟨0,Nat.zero_le _,fun j y _ h=>by omega,fun j y hy _=>?_⟩;cases j with
   | zero=>
    rw[List.getElem?_cons_zero] at hy;injection hy with hy;rw[<- hy];exact hx
   | succ j=>
    rw[List.getElem?_cons_succ] at hy;have h1:=hs.1 y.1 (List.mem_map.2 ⟨y,List.mem_of_getElem? hy,rfl⟩);cases hq:ltOf cfA y.1 k with
    | false=>rfl
    | true=>rw[j18 h1 hq] at hx;cases hx
  | true=>
   obtain⟨lo,h1,h2,h3⟩:=j3a k (K:=K) hs.2;refine⟨lo+1,by rw[List.length_cons];omega,fun j y hy hj=>?_,fun j y hy hj=>?_⟩
   ·cases j with
    | zero=>
     rw[List.getElem?_cons_zero] at hy;injection hy with hy;rw[<- hy];exact hx
    | succ j=>
     rw[List.getElem?_cons_succ] at hy;exact h2 j y hy (by omega)
   ·cases j with
    | zero=>omega
    | succ j=>
     rw[List.getElem?_cons_succ] at hy;exact h3 j y hy (by omega)
theorem I8.uniq {K:List Cc}{k:Int×Int}{a b:Nat}(ha:I8 K k a)(hb:I8 K k b):a=b:=by
 rcases Nat.lt_trichotomy a b with h|h|h
 ·have hl:a<K.length:=Nat.lt_of_lt_of_le h hb.le;have e:=List.getElem?_eq_getElem hl;have h1:=hb.lt a _ e h;rw[ha.ge a _ e (Nat.le_refl _)] at h1;cases h1
 ·exact h
 ·have hl:b<K.length:=Nat.lt_of_lt_of_le h ha.le;have e:=List.getElem?_eq_getElem hl;have h1:=ha.lt b _ e h;rw[hb.ge b _ e (Nat.le_refl _)] at h1;cases h1
theorem DG.km {w w':World}{B r g:Nat}{v:Value}{ys:List (Cc×Value)}(h:DG w B r v ys)(k:Km g w w'){mv:Option Nat}(hg:Blk w g [.map mv] 96):DG w' B r v ys:=
 ⟨k.blk h.box (Blk.ne h.box hg (by decide)),h.pts.km k hg⟩
def zCt:Ct:=⟨0,⟨0,0,⟨#[]⟩,R,0⟩,zNd⟩
def gtL (K:List Cc) (lo:Nat) (k:Int×Int):Ct:=match K[lo]? with|none=>zCt|some x=>if x.1=k then cpC x.2 else zCt
theorem j5M {K:List Cc}{lo:Nat}{k:Int×Int}(h:isK K lo k=R):gtL K lo k=zCt:=by
 unfold isK at h;unfold gtL;split
 ·rfl
 ·rename_i x hx
  rw[hx] at h;rw[if_neg (of_decide_eq_false h)]
theorem j5N {K:List Cc}{lo:Nat}{k:Int×Int}(h:isK K lo k=J):∃x,K[lo]? = H x/\gtL K lo k=cpC x.2:=by
 unfold isK at h;unfold gtL;split
 ·rename_i hx;rw[hx] at h;cases h
 ·rename_i x hx
  rw[hx] at h;exact⟨x,hx,if_pos (of_decide_eq_true h)⟩
theorem j8y:([O I 0,O I 0,ap ao 0,aq ⟨#[]⟩,E R,O I 0,O I 0,O I 0,ap ao 0,aq ⟨#[]⟩,E R,O I 0,O I 0,O I 0,E R,E R,O I 0,O I 0,E R,E R,U G 0 0]:List Value).toArray.all (·.oneCell')=J:=Ct.one zCt rfl
theorem j4o (a:Ct){sl:Value}(h:sl.oneCell'=J):(a.cells sl).toArray.all (·.oneCell')=J:=Ct.one a h
theorem jDH (B r:Nat)(v:Value)(ys:List (Cc×Value))(K:List Cc)(c s:Int)(w:World)(hd:DG w B r v ys)(hK:ys.map (·.1)=K)(hn4:K.length<=4096)(hs:E9 (K.map (·.1)))(hok:∀x∈K,x.2.v.x<18446744073709551616/\x.2.t.size<=1048576/\x.2.t.ok):
 Calls prog 78 #[an (H ⟨r,0,G⟩),T #[O I c,O I s]] w fun e w'=>∃lo sl fp,I8 K (c,s) lo/\e=Q ((gtL K lo (c,s)).val sl)/\Own w' w.heap.size sl (gtL K lo (c,s)).t fp/\Kp w w' Nul:=by
 obtain⟨p,cp,rfl,hp⟩:=hd.pts.slice;obtain⟨n,hn⟩:=e_ ys.length;have hKn:K.length=n:=by rw[<- hK,List.length_map,hn]
 obtain⟨W,hW⟩:=e_ ((w.alloc (.cells #[O I c,O I s] 32)).alloc (.cells #[O I 0,O I 0,ap ao 0,aq ⟨#[]⟩,E R,O I 0,O I 0,O I 0,ap ao 0,aq ⟨#[]⟩,E R,O I 0,O I 0,O I 0,E R,E R,O I 0,O I 0,E R,E R,U G 0 0] 50));have HW:=h_ hW;have kW:Kp w W Nul:=by rw[<- hW];exact((Kp.refl _ _).alloc _).alloc _
 have HA:Hid (Blk W w.heap.size [O I c,O I s] 32):=by show Blk _ _ _ _;rw[<- hW];exact(Blk.new w _ _).alloc _
 have HB:Hid (Blk W (w.heap.size+1) [O I 0,O I 0,ap ao 0,aq ⟨#[]⟩,E R,O I 0,O I 0,O I 0,ap ao 0,aq ⟨#[]⟩,E R,O I 0,O I 0,O I 0,E R,E R,O I 0,O I 0,E R,E R,U G 0 0] 50):=by
  show Blk _ _ _ _;have h:=Blk.new (w.alloc (.cells #[O I c,O I s] 32)) [O I 0,O I 0,ap ao 0,aq ⟨#[]⟩,E R,O I 0,O I 0,O I 0,ap ao 0,aq ⟨#[]⟩,E R,O I 0,O I 0,O I 0,E R,E R,O I 0,O I 0,E R,E R,U G 0 0] 50;rw[World.size_alloc] at h;rw[<- hW];exact h
 have HS:Hid (∀wq,Kp w wq Nul->wq.cell? ⟨r,0,G⟩=H (U p n cp)):=fun wq k=>by
  have:=(hd.box.kp k (fun x=>x)).cell (i:=0) rfl;rw[hn] at this;exact this
 have HR:Hid (∀(i:Nat) x,K[i]? = H x->∃b sl,p=H ⟨b,0,G⟩/\i<n/\(∀wq,Kp w wq Nul->wq.rangeAt b (i*23) [O I x.1.1,O I x.1.2]/\wq.rangeAt b (i*23+2) (x.2.cells sl)/\NdIn wq (fun _=>True) sl x.2.t)):=fun i x hx=>by
  have hi:i<ys.length:=by have:=(List.getElem?_eq_some_iff.1 hx).1;rw[hKn] at this;omega
  obtain⟨b,e,_,hrow⟩:=hp (by omega);have hy:=List.getElem?_eq_getElem hi;have ex:x=ys[i].1:=by
   rw[<- hK,List.getElem?_map,hy,Option.map_some] at hx;exact(Option.some.inj hx).symm
  refine⟨b,ys[i].2,e,by omega,fun wq k=>?_⟩;have h1:=I9 (U6 (hrow i ys[i] hy) k (fun x=>x));rw[ex];exact⟨h1.1,h1.2,(hd.pts.tree _ (List.getElem_mem hi)).kp k (fun _ _ x=>x)⟩
 have HPl:Hid (Calls prog 50 #[an (H ⟨r,0,G⟩),T #[O I c,O I s]] W fun e w'=>(∃lo,e=Q (au #[O I (lo:Nat),E (isK K lo (c,s))])/\I8 K (c,s) lo)/\Kp W w' Nul):=j6H r n cp p K c s W hKn (by omega) hs (fun wq k=>HS.o wq (kW.trans k)) (fun i x hx=>by
  obtain⟨b,sl,e,_,h⟩:=HR.o i x hx;exact⟨b,e,fun wq k=>(h wq (kW.trans k)).1⟩)
 have HKW:=h_ kW;have HOK:=h_ hok;have HRA:=h_ HA.o.all;have HN:Hid (n<=4096):=by show _<=_;omega
 clear hd hp hn hK hKn hW kW hs hok hn4;go_enter func78,ntmps78;go_wp2_with (first|(rw[HW.o])|(refine wpList_load_mid rfl _ (.tmp 3) rfl _ 0 rfl _ _ HRA.o underlying32 rfl O0 ?_)|fail);refine HPl.o.mono ?_;rintro e w1 ⟨⟨lo,rfl,hlo⟩,k1⟩;have HLo:=h_ hlo;have HK1:=h_ k1;have HB1:=h_ (HB.o.kp k1 (fun x=>x));clear hlo k1 HPl HRA HA;cases hi:isK K lo (c,s) with
 | false=>
  have e0:=j5M hi;have HF:Hid (∀Y,Kp w1 Y (fun i=>i=w.heap.size+1)->∃lo sl fp,I8 K (c,s) lo/\Q (T #[O I 0,O I 0,ap ao 0,aq ⟨#[]⟩,E R,O I 0,O I 0,O I 0,ap ao 0,aq ⟨#[]⟩,E R,O I 0,O I 0,O I 0,E R,E R,O I 0,O I 0,E R,E R,U G 0 0])=Q ((gtL K lo (c,s)).val sl)/\Own Y w.heap.size sl (gtL K lo (c,s)).t fp/\Kp w Y Nul):=fun Y k=>⟨lo,U G 0 0,[],HLo.o,by rw[e0];rfl,by rw[e0];exact Own.nil _ _ _,(HKW.o.trans HK1.o).trans' k (fun i hi e=>by have e':i=w.heap.size+1:=e;omega)⟩
  clear hi e0 HR HS HOK;go_wp2_with (first|(refine D5 rfl _ (.tmp 4) (.tmp 15) rfl _ _ [O I 0,O I 0,ap ao 0,aq ⟨#[]⟩,E R,O I 0,O I 0,O I 0,ap ao 0,aq ⟨#[]⟩,E R,O I 0,O I 0,O I 0,E R,E R,O I 0,O I 0,E R,E R,U G 0 0] 50 HB1.o rfl rfl rfl D9 j8y ?_;intro Y hbY hkY)|fail);refine bodyPost_ret (results_cell_row rfl _ _ (w.heap.size+1) 50 _ (0,0) _ rfl hbY underlying50 rfl D9) rfl ?_;exact HF.o Y hkY
 | true=>
  obtain⟨x,hx,e0⟩:=j5N hi;have HE0:=h_ e0;obtain⟨b,sl,rfl,hln,hr⟩:=HR.o lo x hx;obtain⟨h1,h2,h3⟩:=HOK.o x (List.mem_of_getElem? hx);have hq:=hr w1 (HKW.o.trans HK1.o);have HRc:=h_ hq.2.1;have HCp:Hid (Calls prog 51 #[T (x.2.cells sl).toArray] w1 fun e w'=>∃sl' fp,e=Q ((cpC x.2).val sl')/\Own w' w1.heap.size sl' (cpC x.2).t fp/\Kp w1 w' Nul):=(j2L x.2 sl (fun _=>True) w1 h1 h2 h3 hq.2.2).mono (by
   rintro e w' ⟨sl',fp,g1,g2,g3⟩;exact⟨sl',fp,g1,g2,Kp.of_below g3⟩)
  have s1:=HS.o w1 (HKW.o.trans HK1.o);have hl0:(0:Int)<=(lo:Int):=by omega
  have hln':(lo:Int)<(n:Int):=by omega
  have hln4:(lo:Int)<=4096:=by have:=HN.o;omega
  clear hi hx e0 HR HS HOK hr h1 h2 h3 hq hln;go_wp2_with (first|(refine wpList_load_mid rfl _ (.tmp 22) rfl _ (lo*23+2) rfl _ _ HRc.o underlying50 rfl D9 ?_)|fail);refine HCp.o.mono ?_;rintro e w2 ⟨sl',fp,rfl,g2,g3⟩;have HB2:=h_ (HB1.o.kp g3 (fun x=>x));have HO1:=h_ g2.own.one;have hsz:=HK1.o.size;have hWs:=HB.o.lt;have HF:Hid (∀Y,Kp w2 Y (fun i=>i=w.heap.size+1)->∃lo sl fp,I8 K (c,s) lo/\Q (T ((cpC x.2).cells sl').toArray)=Q ((gtL K lo (c,s)).val sl)/\Own Y w.heap.size sl (gtL K lo (c,s)).t fp/\Kp w Y Nul):=fun Y k=>⟨lo,sl',fp,HLo.o,by rw[HE0.o],by rw[HE0.o];exact(g2.kp k (fun b hb e=>by have e':b=w.heap.size+1:=e;have:=(g2.new b hb).1;omega)).le (by omega),((HKW.o.trans HK1.o).trans g3).trans' k (fun i hi e=>by have e':i=w.heap.size+1:=e;omega)⟩
  clear HE0;generalize cpC x.2=ct at *;clear g2 g3 HCp HRc s1 hsz hWs;have HO2:=j4o ct HO1.o;go_wp2_with (first|(refine D5 rfl _ (.tmp 4) (.tmp 24) rfl _ _ (ct.cells sl') 50 HB2.o rfl rfl rfl D9 HO2 ?_;intro Y hbY hkY)|fail);refine bodyPost_ret (results_cell_row rfl _ _ (w.heap.size+1) 50 _ (0,0) _ rfl hbY underlying50 rfl D9) rfl ?_;exact HF.o Y hkY
theorem j1d {s:ByteArray}(h:s.toList=[]):s.size=0:=by
 rw[ByteArray.toList_eq] at h;show s.data.size=0;rw[<- Array.length_toList,h]
 rfl
theorem j8v {s t:ByteArray}(h:s.toList=t.toList):s.size=t.size:=by
 rw[ByteArray.toList_eq,ByteArray.toList_eq] at h;show s.data.size=t.data.size;rw[<- Array.length_toList,h,Array.length_toList]
theorem jAi {s:ByteArray}(h:(known s).2.2=J):s.size<65536:=by
 have key:∀l:List ByteArray,(∀n∈l,n.size<65536)->F7 s l=J->s.size<65536:=by
  intro l hl ha;unfold F7 at ha;rw[List.any_eq_true] at ha;obtain⟨n,hn,he⟩:=ha;rw[j8v (show s.toList=n.toList by simpa using he)];exact hl n hn
 unfold known at h;by_cases q0:F7 s nm0=J
 ·exact key nm0 (by decide) q0
 rw[if_neg q0] at h;by_cases q1:F7 s nm1=J
 ·exact key nm1 (by decide) q1
 rw[if_neg q1] at h;by_cases q2:F7 s nm2=J
 ·exact key nm2 (by decide) q2
 rw[if_neg q2] at h;by_cases q3:F7 s nm3=J
 ·exact key nm3 (by decide) q3
 rw[if_neg q3] at h;by_cases q4:F7 s nm4=J
 ·exact key nm4 (by decide) q4
 rw[if_neg q4] at h;by_cases q5:F7 s nm5=J
 ·exact key nm5 (by decide) q5
 rw[if_neg q5] at h;by_cases q6:F7 s nm6=J
 ·exact key nm6 (by decide) q6
 rw[if_neg q6] at h;cases h
theorem jCF {h:Hd}{n:Nat}{c:Bool}(ho:ownE h n c=0):h.s.size<=140737488355328:=by
 have hw:wm h n=J:=by
  cases q:wm h n with
  | true=>rfl
  | false=>unfold ownE at ho;rw[if_pos q] at ho;omega
 by_cases k2:h.k=2
 ·unfold wm at hw;rw[if_neg (by omega),if_pos k2] at hw;simp only[Bool.and_eq_true,decide_eq_true_eq] at hw;have:=hw.1.1.1;omega
 by_cases k9:h.k=9
 ·unfold ownE at ho;rw[if_neg (by rw[hw];decide),if_neg (by omega),if_neg (by omega),if_pos k9] at ho;have hkn:(known h.s).2.2=J:=by
   cases q:(known h.s).2.2 with
   | true=>rfl
   | false=>unfold j06 at ho;rw[if_pos q] at ho;omega
  have:=jAi hkn;omega
 have hj:j9 h (wmJ h)=J:=by
  unfold wm at hw;repeat' split at hw
  all_goals first
   | exact hw
   | (simp only[Bool.and_eq_true] at hw;exact hw.2)
   | cases hw
 obtain⟨e1,_,_,e4,_⟩:=j3E hj;have hs:(wmJ h).s.toList=[]:=by
  have z:(zHd.s).toList=[]:=by rw[ByteArray.toList_eq];rfl
  by_cases k1:h.k=1
  ·unfold wmJ;rw[if_pos k1];exact z
  by_cases k3:h.k=3
  ·unfold wmJ;rw[if_neg k1,if_neg k2,if_pos k3];exact z
  by_cases k4:h.k=4
  ·unfold wmJ;rw[if_neg k1,if_neg k2,if_neg k3,if_pos k4];exact z
  by_cases k5:h.k=5
  ·unfold wmJ;rw[if_neg k1,if_neg k2,if_neg k3,if_neg k4,if_pos k5];exact z
  by_cases k6:h.k=6
  ·unfold wmJ;rw[if_neg k1,if_neg k2,if_neg k3,if_neg k4,if_neg k5,if_pos k6];exact z
  by_cases k7:h.k=7
  ·unfold wmJ;rw[if_neg k1,if_neg k2,if_neg k3,if_neg k4,if_neg k5,if_neg k6,if_pos k7];exact z
  by_cases k8:h.k=8
  ·unfold wmJ;rw[if_neg k1,if_neg k2,if_neg k3,if_neg k4,if_neg k5,if_neg k6,if_neg k7,if_pos k8];exact z
  ·unfold wm at hw;rw[if_neg k1,if_neg k2,if_neg k3,if_neg k4,if_neg k5,if_neg k6,if_neg k7,if_neg k8,if_neg k9] at hw;cases hw
 rw[hs] at e4;rw[j1d e4];omega
mutual
theorem j5B:∀(t:Nd) (c:Bool),t.fe c=0->t.txt
 | .mk h ts,c,h0=>by
  rw[Nd.fe] at h0;by_cases ho:ownE h ts.length c=0
  ·rw[if_neg (by rw[ho];decide)] at h0;rw[Nd.txt];exact⟨jCF ho,j59 ts _ h0⟩
  ·rw[if_pos ho] at h0;exact absurd h0 ho
theorem j59:∀(ts:List Nd) (c:Bool),feL ts c=0->txtL ts
 | [],_,_=>by rw[txtL];trivial
 | t::ts,c,h0=>by
  rw[feL] at h0;by_cases ht:t.fe c=0
  ·rw[if_neg (by rw[ht];decide)] at h0;rw[txtL];exact⟨j5B t c ht,j59 ts c h0⟩
  ·rw[if_pos ht] at h0;exact absurd h0 ht
end
theorem jF5 {t:Nd}(h:I4 t=J):t.txt:=by
 obtain⟨h',ts⟩:=t;unfold I4 zNd at h;rw[G8] at h;simp only[Bool.and_eq_true] at h;have e1:ts=[]:=by
  cases ts with
  | nil=>rfl
  | cons t ts=>simp[F3] at h
 subst e1;obtain⟨_,_,_,e4,_⟩:=j3E h.1;rw[Nd.txt];refine⟨?_,by rw[txtL];trivial⟩;rw[j1d (by rw[e4,ByteArray.toList_eq];rfl)];omega
theorem j1r {a:Ct}(h:Gd a):(a.k=1/\I4 a.t=J/\a.v.s.size<=1024)∨(a.k=2/\chk a.t=0/\a.v.s.size=0):=by
 have hv:=h.val;unfold gv Q1 at hv;simp only[Bool.or_eq_true,Bool.and_eq_true,beq_iff_eq,bne_iff_ne] at hv;rcases hv with (q|q)|q
 ·exact absurd q.1 h.k
 ·obtain⟨q1,⟨q2,q3⟩,q4⟩:=q;refine .inl ⟨q1,q4,?_⟩;unfold J8 J6 isF at q3;simp only[Bool.or_eq_true,Bool.and_eq_true,beq_iff_eq,decide_eq_true_eq,Bool.not_eq_true'] at q3;obtain⟨⟨⟨⟨b1,b2⟩,b3⟩,b4⟩,b5⟩:=q3;rcases b2 with b2|b2
  ·rcases b5 with (((b5|b5)|b5)|b5)|b5
   ·omega
   ·omega
   ·omega
   ·exact b5.1.2
   ·omega
  ·rw[j1d b2];omega
 ·obtain⟨q1,q2,q3⟩:=q;refine .inr ⟨q1,q3,?_⟩;unfold J9 J6 at q2;simp only[Bool.or_eq_true,Bool.and_eq_true,beq_iff_eq,decide_eq_true_eq,Bool.not_eq_true'] at q2;obtain⟨z1,⟨⟨⟨b1,b2⟩,b3⟩,b4⟩⟩:=q2;rcases b2 with b2|b2
  ·omega
  ·exact j1d b2
theorem j5H {a:Ct}(h:Gd a):a.t.txt:=by
 rcases j1r h with ⟨_,q,_⟩|⟨_,q,_⟩
 ·exact jF5 q
 ·unfold chk at q;split at q
  ·omega
  ·split at q
   ·omega
   ·exact j5B _ _ q
theorem jA3 {a:Ct}(h:Gd a):a.v.s.size<=140737488355328:=by
 rcases j1r h with ⟨_,_,q⟩|⟨_,_,q⟩ <;> omega
structure DM (w:World) (B r:Nat) (M:List Cc):Prop where
 ex:∃v ys,DG w B r v ys/\Al M (ys.map (·.1))
 ok:Ok17 M
 once:M.Pairwise (fun x y=>x.1≠y.1)
theorem DM.kp {w w':World}{B r:Nat}{M:List Cc}(h:DM w B r M)(k:Kp w w' Nul):DM w' B r M:=by
 obtain⟨v,ys,h1,h2⟩:=h.ex;exact⟨⟨v,ys,h1.kp k,h2⟩,h.ok,h.once⟩
theorem DM.congr {w:World}{B r:Nat}{M M':List Cc}(h:DM w B r M)(hm:∀x,x∈M'↔x∈M)(ok:Ok17 M')(once:M'.Pairwise (fun x y=>x.1≠y.1)):DM w B r M':=by
 obtain⟨v,ys,h1,h2⟩:=h.ex;exact⟨⟨v,ys,h1,⟨h2.st,fun x=>(h2.mem x).trans (hm x).symm,h2.len.trans (((List.perm_ext_iff_of_nodup (j3W h.once) (j3W once)).2 (fun x=>(hm x).symm)).length_eq)⟩⟩,ok,once⟩
theorem DM.lt {w:World}{B r:Nat}{M:List Cc}(h:DM w B r M):r<w.heap.size:=by
 obtain⟨v,ys,h1,_⟩:=h.ex;exact h1.box.lt
theorem DM.new {w:World}{B r:Nat}(h:Blk w r [U G 0 0] 81):DM w B r []:=
 ⟨⟨_,[],⟨h,Pts.nil _ _ _⟩,Al.nil⟩,Ok17.nil,List.Pairwise.nil⟩
theorem jDI {a:Ct}(h:Gd a)(sl:Value)(F:Nat->Prop)(w:World)(hin:NdIn w F sl a.t):
 Calls prog 48 #[a.val sl] w fun e w'=>e=Q (E J)/\Kp w w' Nul:=by
 have q:=j3k a sl F w h.size h.ok (j5H h) (jA3 h) hin;have e:Q1 a (validD a.v.s.data.toList) (chk a.t)=J:=h.val;rw[e] at q;exact q
theorem dput (B r:Nat)(M:List Cc)(c s:Int)(ct:Ct)(sl:Value)(F:Nat->Prop)(w:World)(h:DM w B r M)(hB:B<=w.heap.size)(hg:Gd ct)(hv:vC c s=J)(hin:NdIn w F sl ct.t):
 Calls prog 12 #[an (H ⟨r,0,G⟩),T #[O I c,O I s],ct.val sl] w fun e w'=>e=Q (O I (if G9 M (c,s)=J then 0 else 41))/\DM w' B r (if G9 M (c,s)=J then putL M (c,s) ct else M)/\Kp w w' (fun i=>i=r):=by
 obtain⟨v,ys,h1,h2⟩:=h.ex;refine(j3p B r v ys _ c s ct sl J w h1 rfl hB (by rw[h2.len];exact h.ok.len) h2.st (fun wq k=>jDI hg sl F wq (hin.kp k (fun _ _ x=>x))) (fun _ wq k=>(j2L ct sl F wq hg.x hg.size hg.ok (hin.kp k (fun _ _ x=>x))).mono (by
  rintro e w' ⟨sl',fp,q1,q2,q3⟩;exact⟨sl',fp,q1,q2,Kp.of_below q3⟩)) hin.one).mono ?_
 rintro e w' ⟨lo,v',ys',hp,rfl,hd,hy,hk⟩;refine⟨?_,?_,hk⟩
 ·by_cases hr:G9 M (c,s)=J
  ·rw[if_pos hr,j1W hv (fun q=>?_)]
   ·rfl
   ·rcases O4.1 hr with e|⟨c',e⟩
    ·have:=q.2.2;rw[h2.len] at this;omega
    ·have:isK (ys.map (·.1)) lo (c,s)=J:=(j0C hp h2.st).2 ⟨c',(h2.mem _).2 e⟩;rw[q.2.1] at this;cases this
  ·rw[if_neg hr,j2S hv hg.k]
   ·rfl
   ·cases q:isK (ys.map (·.1)) lo (c,s) with
    | false=>rfl
    | true=>
     obtain⟨a,ha⟩:=(j0C hp h2.st).1 q;exact absurd (O4.2 (.inr ⟨a,(h2.mem _).1 ha⟩)) hr
   ·have:¬M.length<4096:=(fun q=>hr (O4.2 (.inl q)));rw[h2.len];omega
 ·by_cases hr:G9 M (c,s)=J
  ·have e0:rpE J (ys.map (·.1)) lo c s ct=0:=j1W hv (fun q=>by
    rcases O4.1 hr with e|⟨c',e⟩
    ·have:=q.2.2;rw[h2.len] at this;omega
    ·have:isK (ys.map (·.1)) lo (c,s)=J:=(j0C hp h2.st).2 ⟨c',(h2.mem _).2 e⟩;rw[q.2.1] at this;cases this)
   rw[if_pos e0] at hy;rw[if_pos hr];have em:midC c s ct=[((c,s),ct)]:=(by unfold midC;rw[if_neg hg.k,hg.cp]);rw[em] at hy;refine⟨⟨v',ys',hd,?_⟩,h.ok.put h.once hv hg (O4.1 hr),j3d h.once⟩;rw[hy];exact j2m h2 hp _ (.inr ⟨ct,rfl⟩) (j3d h.once) (fun x=>by
    rw[R8,List.mem_singleton];exact⟨fun q=>q.elim .inr .inl,fun q=>q.elim .inr .inl⟩)
  ·have e0:rpE J (ys.map (·.1)) lo c s ct=41:=by
    refine j2S hv hg.k ?_ ?_
    ·cases q:isK (ys.map (·.1)) lo (c,s) with
     | false=>rfl
     | true=>
      obtain⟨a,ha⟩:=(j0C hp h2.st).1 q;exact absurd (O4.2 (.inr ⟨a,(h2.mem _).1 ha⟩)) hr
    ·have:¬M.length<4096:=(fun q=>hr (O4.2 (.inl q)));rw[h2.len];omega
   rw[if_neg (by rw[e0];decide)] at hy;rw[if_neg hr];exact⟨⟨v',ys',hd,by rw[hy];exact h2⟩,h.ok,h.once⟩
theorem DM.km {w w':World}{B r g:Nat}{M:List Cc}(h:DM w B r M)(k:Km g w w'){mv:Option Nat}(hg:Blk w g [.map mv] 96):DM w' B r M:=by
 obtain⟨v,ys,h1,h2⟩:=h.ex;exact⟨⟨v,ys,h1.km k hg,h2⟩,h.ok,h.once⟩
theorem jBX {w w':World}{F:Nat->Prop}{sl:Value}{t:Nd}{b n c:Nat}{p:Option Addr}{ty:TypeId}(h:NdIn w F sl t)(k:Kp w w' (fun i=>i=b))(hb:Blk w b [U p n c] ty):NdIn w' F sl t:=
 h.monoC fun i hi hc=>by
  obtain⟨o,q,x,hc⟩:=hc;refine⟨k.block i (J7 hc) (fun e=>?_),hi⟩;have e':i=b:=e;subst e';exact j2A hb hc
theorem DM.off {w w':World}{B r b n c:Nat}{p:Option Addr}{M:List Cc}(h:DM w B r M)(k:Kp w w' (fun i=>i=b))(hb:Blk w b [U p n c] 81)(hr:r≠b):DM w' B r M:=by
 obtain⟨v,ys,h1,h2⟩:=h.ex;refine⟨⟨v,ys,⟨h1.box.kp k hr,⟨⟨h1.pts.row.1,?_⟩,fun y hy=>jBX (h1.pts.tree y hy) k hb⟩⟩,h2⟩,h.ok,h.once⟩;rcases h1.pts.row.2 with q|⟨g,c,cur,e1,e2,e3,rest⟩
 ·exact .inl q
 ·refine .inr ⟨g,c,cur,e1,e2,(k.block g (Array.getElem?_eq_some_iff.1 e3).1 (fun e=>?_)).trans e3,rest⟩;have e':g=b:=e;subst e';unfold Blk at hb;rw[hb] at e3;injection e3 with e3;injection e3 with _ h2 _;exact absurd h2 (by decide)
theorem j19 {w:World}{B r:Nat}{v:Value}{ys:List (Cc×Value)}(h:DG w B r v ys):∃p cp,v=U p ys.length cp/\∀i y,ys[i]? = H y->∃b,p=H ⟨b,0,G⟩/\b<w.heap.size/\∀wq,Kp w wq Nul->wq.rangeAt b (i*23) (j8 y.1 y.2)/\NdIn wq (fun b=>b<w.heap.size) y.2 y.1.2.t:=by
 obtain⟨p,cp,rfl,hp⟩:=h.pts.slice;refine⟨p,cp,rfl,fun i y hy=>?_⟩;have hi:i<ys.length:=(List.getElem?_eq_some_iff.1 hy).1;obtain⟨b,e,_,hrow⟩:=hp (by omega);have hr:=hrow i y hy;have hlt:b<w.heap.size:=J7 (hr 0 _ rfl);refine⟨b,e,hlt,fun wq k=>⟨U6 hr k (fun x=>x),?_⟩⟩;exact(h.pts.tree y (List.mem_of_getElem? hy)).mono (fun b _ hl=>⟨k.block b hl (fun x=>x),hl⟩)
theorem Y7 {φ:Cc->Option Cc}{K M:List Cc}{k:Nat}{x y:Cc}(hx:K[k]? = H x)(hy:φ x=H y)(hinj:∀j z y',j<k->K[j]? = H z->φ z=H y'->y'.1≠y.1)(hm:∀z,z∈M↔z∈(K.take k).filterMap φ):∀z,z∈putL M y.1 y.2↔z∈(K.take (k+1)).filterMap φ:=fun z=>by
 have hM:∀u∈M,u.1≠y.1:=fun u hu=>by
  obtain⟨v,hv,e⟩:=List.mem_filterMap.1 ((hm u).1 hu);obtain⟨j,hj⟩:=List.mem_iff_getElem?.1 hv;rw[List.getElem?_take] at hj;split at hj
  ·exact hinj j v u ‹_› hj e
  ·cases hj
 rw[R8,U7 hx,List.filterMap_append,List.mem_append,<- hm z];have e1:[x].filterMap φ=[y]:=by simp[List.filterMap,hy]
 rw[e1,List.mem_singleton];constructor
 ·rintro(q|⟨q,_⟩)
  ·exact .inr q
  ·exact .inl q
 ·rintro(q|q)
  ·exact .inr ⟨q,hM z q⟩
  ·exact .inl q
theorem j1F {φ:Cc->Option Cc}{K M:List Cc}{k:Nat}{x:Cc}(hx:K[k]? = H x)(hy:φ x=G)(hm:∀z,z∈M↔z∈(K.take k).filterMap φ):∀z,z∈M↔z∈(K.take (k+1)).filterMap φ:=fun z=>by
 rw[U7 hx,List.filterMap_append,List.mem_append,<- hm z];have e1:[x].filterMap φ=[]:=by simp[List.filterMap,hy]
 rw[e1];simp
theorem j00 {M:List Cc}{p:Int×Int}{c:Ct}{k:Nat}(h:M.length<=k):(putL M p c).length<=k+1:=by
 unfold putL;have q:=List.length_filter_le (fun y:Cc=>decide (y.1≠p)) M;rw[List.length_cons];omega
theorem j75 {K:List Cc}(hs:E9 (K.map (·.1))){i j:Nat}{x y:Cc}(hx:K[i]? = H x)(hy:K[j]? = H y)(hij:i<j):x.1≠y.1:=fun e=>by
 have:=j2a hs hx hy hij;rw[e,j07] at this;cases this
theorem j04 {f:Fate}(hi:j15 f){K:List Cc}(hs:E9 (K.map (·.1)))(hv:∀y∈K,vC y.1.1 y.1.2=J){k:Nat}{x:Cc}{b:Ar4}(hx:K[k]? = H x)(hb:f (x.1,x.1)=H b):∀j z y',j<k->K[j]? = H z->(fun x:Cc=>(f (x.1,x.1)).map fun b=>(b.1,alC f x.2)) z=H y'->y'.1≠((b.1,alC f x.2):Cc).1:=by
 intro j z y' hj hz hy;simp only[Option.map_eq_some_iff] at hy;obtain⟨b',e1,rfl⟩:=hy;exact hi z.1 x.1 b' b (hv z (List.mem_of_getElem? hz)) (hv x (List.mem_of_getElem? hx)) (j75 hs hz hx hj) e1 hb
structure Sm24 (a:Ct):Prop where
 sz:a.t.size<=1048576
 txt:a.t.txt
 vs:a.v.s.size<=140737488355328
structure Two (w:World) (B g r:Nat) (L Kd:List Cc) (v:Value) (ys:List (Cc×Value)):Prop where
 gi:j6 w (fun i=>B<=i/\i≠r) g L
 ok:Ok17 L
 al:Al L Kd
 dg:DG w B r v ys
 ks:ys.map (·.1)=Kd
inductive j2j (w:World):Ending->World->Prop
 | mk {g r:Nat} {L Kd:List Cc} {v:Value} {ys:List (Cc×Value)} {w':World} (two:Two w' w.heap.size g r L Kd v ys) (low:w.heap.size<=r) (kp:Kp w w' Nul):j2j w (Q (au #[an (H ⟨g,0,G⟩),an (H ⟨r,0,G⟩)])) w'
theorem j4O (vl:Value)(xl:List (Cc×Value))(w:World)(hl:j0O w vl xl)(hsm:∀y∈xl,Sm24 y.1.2)(hv:VS w):
 Calls prog 7 #[vl] w fun e w'=>j2j w e w':=by
 have HV:=h_ hv;obtain⟨la,lc,rfl,hla⟩:=hl.sl;have HLA:=h_ hla;have HLC:Hid (∀y∈xl,Cn w y.1.2 y.2/\Sm24 y.1.2):=fun y hy=>⟨hl.cn y hy,hsm y hy⟩
 have hLL:xl.length<=9223372036854775807:=by have:=hl.len;unfold maxLen at this;omega
 generalize hnl:xl.length=nl at *;have HNL:Hid (xl.length=nl/\nl<=9223372036854775807):=⟨hnl,hLL⟩;have HNew:=h_ fun w=>j26 w
 obtain⟨W1,hW1⟩:=e_ ((w.alloc (.cells #[.map G] 96)).alloc (.cells #[U G 0 0] 81));have HW1:=h_ hW1;have k1:Kp (w.alloc (.cells #[.map G] 96)) W1 Nul:=by rw[<- hW1];exact(Kp.refl _ _).alloc _
 have HK1:=h_ (((Kp.refl w Nul).alloc _).trans k1);obtain⟨g,hg⟩:=e_ w.heap.size;obtain⟨r,hr⟩:=e_ (w.heap.size+1);have HT1:Hid (Two W1 w.heap.size g r [] [] (U G 0 0) []):=by
  refine⟨?_,Ok17.nil,Al.nil,⟨?_,Pts.nil _ _ _⟩,rfl⟩
  ·rw[<- hg];exact(j5L w (fun i=>w.heap.size<=i/\i≠r) ⟨Nat.le_refl _,by omega⟩).kp k1
  ·have:=Blk.new (w.alloc (.cells #[.map G] 96)) [U G 0 0] 81;rw[World.size_alloc,hr] at this;rw[<- hW1];exact this
 have HRr:Hid (w.heap.size<=r):=by show _<=_;omega
 have HGg:Hid (w.heap.size=g/\w.heap.size+1=r):=⟨hg,hr⟩;clear hl hv hla hnl hLL hsm hW1 k1 hg hr;go_enter func7,ntmps7;go_wp2_with fail;refine(HNew.o w).mono ?_;rintro e w1 ⟨rfl,hz⟩;subst hz;go_wp2_with (first|(rw[HW1.o])|fail);rw[HGg.o.2,HGg.o.1];clear HNew;go_loopw[6] (fun i wr=>∃(q:Nat) (L Kd:List Cc) (v:Value) (ys:List (Cc×Value)),q<=nl/\i=O I q/\Two wr w.heap.size g r L Kd v ys/\Kp w wr Nul) (fun i _=>nl-(RowKit.intOf i).toNat)
 case atStart=>exact⟨0,[],[],_,[],Nat.zero_le _,rfl,HT1.o,HK1.o⟩
 case round=>
  clear HT1 HK1;obtain⟨q,L,Kd,v,ys,hq,rfl,htr,hkr⟩:=hrel;have HTR:=h_ htr;have HKR:=h_ hkr;clear htr hkr;by_cases hlt:q<nl
  ·have hqt:q<xl.length:=(by rw[HNL.o.1];exact hlt);obtain⟨b,o,rfl,hra⟩:=HLA.o (by have:=HNL.o.1;omega);obtain⟨⟨⟨⟨c,s⟩,a⟩,sa⟩,hys⟩:∃y,xl[q]=y:=⟨_,rfl⟩;have hget:xl[q]? = H (((c,s),a),sa):=(by rw[List.getElem?_eq_getElem hqt,hys]);have hr:=hra q _ hget;obtain⟨hcn,hsm⟩:=HLC.o _ (List.mem_of_getElem? hget);have HCN:Hid (Cn w a sa/\Sm24 a):=⟨hcn,hsm⟩;have HRG:=(h_ fun wq (k:Kp w wq Nul)=>I9 (U6 hr k (fun x=>x)));have hq0:(0:Int)<=(q:Int):=(by omega);have hqn:(q:Int)<(nl:Int):=(by omega);have hkb:(q:Int)+1<=9223372036854775807:=(by have:=HNL.o.2;omega);obtain⟨lo,hlo⟩:=j3a (c,s) HTR.o.al.st;have HLo:=h_ hlo;have HPut:Hid (∀wq,Kp wr wq Nul->Calls prog 11 #[an (H ⟨g,0,G⟩),T #[O I c,O I s],T (a.cells sa).toArray] wq fun e w'=>∃L',e=Q (O I (rpE (gv a) Kd lo c s a:Nat))/\j6 w' (fun i=>w.heap.size<=i/\i≠r) g L'/\Ok17 L'/\Al L' (rpK (gv a) Kd lo c s a)/\DG w' w.heap.size r v ys/\Kp w w' Nul):=fun wq k=>by
    have hk:=HKR.o.trans k;have hgq:=HTR.o.gi.kp k;have hdq:=HTR.o.dg.kp k;obtain⟨mv,bg⟩:=(show GI 0 wq g L from j6.mono hgq (fun _ _=>Nat.zero_le _)).blk;refine(j6O (fun i=>w.heap.size<=i/\i≠r) g c s a sa (fun _=>True) L Kd lo wq hgq (fun i hi=>⟨Nat.le_trans hk.size hi,fun e=>by have:=hdq.box.lt;omega⟩) HTR.o.ok HTR.o.al HLo.o HCN.o.1.ok HCN.o.1.vx (HCN.o.1.inn.kp hk (fun _ _ x=>x)) (HV.o.kp hk)).mono ?_;rintro e w' ⟨L',rfl,h1,h2,h3,h4⟩;exact⟨L',rfl,h1,h2,h3,hdq.km h4 bg,hk.trans' h4.kp (fun i hi hs=>by have:=j1s hgq hs;omega)⟩
   have HRPut:Hid (∀wq,Kp w wq Nul->DG wq w.heap.size r v ys->Calls prog 12 #[an (H ⟨r,0,G⟩),T #[O I c,O I s],T (a.cells sa).toArray] wq fun e w'=>∃v' ys',e=Q (O I (rpE (gv a) Kd lo c s a:Nat))/\DG w' w.heap.size r v' ys'/\ys'.map (·.1)=rpK (gv a) Kd lo c s a/\Kp wq w' (fun i=>i=r)):=fun wq k hd=>by
    have hone:=HCN.o.1.inn.one;refine(j3p w.heap.size r v ys Kd c s a sa (gv a) wq hd HTR.o.ks k.size (by have h1:=HTR.o.al.len;have h2:=HTR.o.ok.len;omega) HTR.o.al.st (fun wz kz=>j3k a sa (fun _=>True) wz HCN.o.2.sz HCN.o.1.ok HCN.o.2.txt HCN.o.2.vs (HCN.o.1.inn.kp (k.trans kz) (fun _ _ x=>x))) (fun _ wz kz=>(j2L a sa (fun _=>True) wz HCN.o.1.vx HCN.o.2.sz HCN.o.1.ok (HCN.o.1.inn.kp (k.trans kz) (fun _ _ x=>x))).mono (by
     rintro e w' ⟨sl',fp,h1,h2,h3⟩;exact⟨sl',fp,h1,h2,Kp.of_below h3⟩)) hone).mono ?_
    rintro e w' ⟨lo',v',ys',h1,h2,h3,h4,h5⟩;have e1:=I8.uniq h1 HLo.o;subst e1;exact⟨v',ys',h2,h3,h4,h5⟩
   clear hqt hys hget hr hra hcn hsm hlo;go_wp2_with fail;refine wp_region_noPanic ?_;refine I0 (fun w':World=>Kp w w' Nul) (by kernel_rfl) (HKR.o.drew) (fun hHeld=>?_);refine tk 0 20 hHeld ?_;refine tk 1 21 hHeld ?_;refine tk 2 22 hHeld ?_;refine tk 3 23 hHeld ?_;refine tk 4 24 hHeld ?_;refine tk 5 25 hHeld ?_ (v:=T ([O I c,O I s]).toArray) (hy:=by exact fun w' hSw=>q9 _ _ rfl _ _ rfl _ _ (HRG.o w' hSw).1 underlying32 rfl O0);refine tk 6 26 hHeld ?_;refine tk 7 27 hHeld ?_;refine tk 8 28 hHeld ?_;refine tk 9 29 hHeld ?_;refine tk 10 30 hHeld ?_ (v:=T (a.cells sa).toArray) (hy:=by exact fun w' hSw=>q9 _ _ rfl _ _ rfl _ _ (HRG.o w' hSw).2 underlying50 rfl D9);refine tk 12 32 hHeld ?_;refine tk 13 33 hHeld ?_;refine tk 14 34 hHeld ?_;refine tk 15 35 hHeld ?_;refine tk 16 36 hHeld ?_;refine tk 17 37 hHeld ?_ (v:=T ([O I c,O I s]).toArray) (hy:=by exact fun w' hSw=>q9 _ _ rfl _ _ rfl _ _ (HRG.o w' hSw).1 underlying32 rfl O0)
   refine tk 18 38 hHeld ?_;refine tk 19 39 hHeld ?_;refine tk 20 40 hHeld ?_;refine tk 21 41 hHeld ?_;refine tk 22 42 hHeld ?_ (v:=T (a.cells sa).toArray) (hy:=by exact fun w' hSw=>q9 _ _ rfl _ _ rfl _ _ (HRG.o w' hSw).2 underlying50 rfl D9);refine ts 11 fun K hK=>?_
   go_simp;refine(HPut.o _ ((Kp.refl _ _).drew)).mono ?_;rintro e w6 ⟨L6,rfl,hg6,ho6,ha6,hd6,hk6⟩;have HG6:Hid (j6 w6 (fun i=>w.heap.size<=i/\i≠r) g L6/\Ok17 L6/\Al L6 (rpK (gv a) Kd lo c s a)):=⟨hg6,ho6,ha6⟩;have HD6:=h_ hd6;have HK6:=h_ hk6;refine hK.o _ _ hk6 (fun hHeld=>?_);clear hK K hg6 ho6 ha6 hd6 hk6
   (try simp only[Act.put,Sz0,Sz1,Sz2])
   refine ts 23 fun K hK=>?_
   go_simp;refine(HRPut.o _ HK6.o HD6.o).mono ?_;rintro e w7 ⟨v7,ys7,rfl,hd7,hy7,hk7⟩;have HK7:=h_ (HK6.o.trans' hk7 (fun i hi e=>by have e':i=r:=e;have:=HRr.o;omega));have HG7:=h_ (HG6.o.1.far hk7 (fun i hi e=>hi.2 e));have HD7:Hid (DG w7 w.heap.size r v7 ys7/\ys7.map (·.1)=rpK (gv a) Kd lo c s a):=⟨hd7,hy7⟩;refine hK.o _ _ HK7.o (fun hHeld=>?_);clear hK K hd7 hy7 hk7
   (try simp only[Act.put,Sz0,Sz1,Sz2])
   refine tk 24 44 hHeld ?_ (v:=E R);refine wpAnyH_done (by kernel_rfl) ?_ _;refine NoPanic.normal ?_;clear hHeld HPut HRPut HRG HKR HTR;have HT7:Hid (Two w7 w.heap.size g r L6 (rpK (gv a) Kd lo c s a) v7 ys7):=⟨HG7.o,HG6.o.2.1,HG6.o.2.2,HD7.o.1,HD7.o.2⟩;go_wp2_with fail;go_roundw
   case rel=>exact⟨q+1,L6,_,v7,ys7,by omega,by go_num,HT7.o,HK7.o⟩
   case measure=>simp only[RowKit.intOf];omega
  ·have hqe:q=nl:=(by omega);subst hqe;have hqn:¬((q:Int)<(q:Int)):=(by omega);go_wp2_with fail;refine bodyPost_ret (results_tmp2 rfl _ _ _) rfl ?_;exact j2j.mk HTR.o HRr.o HKR.o
end
section
open Go.RowKit Go.Maps Go.Sort Go.Lib Go.Shelf
attribute [local go_sem] Oper.semAt_some
theorem jBb (g:Nat)(w:World):(binOp .eql 25 (an (H ⟨g,0,G⟩)) (an G)).run prog w=.ok (E R) w:=by
 simp[go_sem]
theorem j60 (g:Nat)(w:World):(binOp .eql 24 (an (H ⟨g,0,G⟩)) (an G)).run prog w=.ok (E R) w:=by
 simp[go_sem]
structure AlI (w:World) (r j:Nat) (Z:Nat->Prop) (W:World):Prop where
 b0:Blk W w.heap.size [an (H ⟨r,0,G⟩)] 25
 b1:Blk W (w.heap.size+1) [E R] 4
 b2:Blk W (w.heap.size+2) [O I (j:Nat)] 3
 z:∀i,Z i↔i=w.heap.size+2
 kp:Kp w W Nul
theorem j7i (g r Bd:Nat)(L Kd:List Cc)(v:Value)(ys:List (Cc×Value))(w:World)(ht:Two w Bd g r L Kd v ys):
 Calls prog 10 #[an (H ⟨g,0,G⟩),an (H ⟨r,0,G⟩)] w fun e w'=>e=Q (E J)/\Kp w w' Nul:=by
 obtain⟨pp,cp,rfl,hpp⟩:=ht.dg.pts.slice;obtain⟨n,hn⟩:=e_ ys.length;have hKn:Kd.length=n:=by rw[<- ht.ks,List.length_map,hn]
 have HN:Hid (ys.length=n/\Kd.length=n/\n<=4096/\ys.map (·.1)=Kd):=⟨hn,hKn,by have h1:=ht.al.len;have h2:=ht.ok.len;omega,ht.ks⟩;have hg:GI 0 w g L:=j6.mono ht.gi (fun _ _=>Nat.zero_le _);have HG:=h_ fun wq (k:Kp w wq Nul)=>hg.kp k
 have HGA:=h_ fun wq (k:Kp w wq Nul)=>hg.low.kp k
 have HDG:=h_ fun wq (k:Kp w wq Nul)=>ht.dg.kp k
 have HR0:Hid (∀wq,Kp w wq Nul->wq.cell? ⟨r,0,G⟩=H (U pp n cp)):=fun wq k=>by
  have h:=(HDG.o wq k).box.cell (i:=0) rfl;rw[hn] at h;exact h
 have HOk:=h_ ht.ok;have HAl:=h_ ht.al;obtain⟨W1,hW1⟩:=e_ (((w.alloc (.cells #[an (H ⟨r,0,G⟩)] 25)).alloc (.cells #[E R] 4)).alloc (.cells #[O I 0] 3));have HW1:=h_ hW1;have HK1:Hid (Kp w W1 Nul):=by show Kp _ _ _;rw[<- hW1];exact(((Kp.refl w Nul).alloc _).alloc _).alloc _
 have HS1:Hid (W1.heap.size=w.heap.size+3):=by show _=_;rw[<- hW1,World.size_alloc,World.size_alloc,World.size_alloc]
 have HA1:Hid (AlI w r 0 (fun i=>i=w.heap.size+2) W1):=by
  refine⟨?_,?_,?_,fun _=>Iff.rfl,HK1.o⟩
  ·rw[<- hW1];exact((Blk.new w _ _).alloc _).alloc _
  ·have:=Blk.new (w.alloc (.cells #[an (H ⟨r,0,G⟩)] 25)) [E R] 4;rw[World.size_alloc] at this;rw[<- hW1];exact this.alloc _
  ·have:=Blk.new ((w.alloc (.cells #[an (H ⟨r,0,G⟩)] 25)).alloc (.cells #[E R] 4)) [O I 0] 3;rw[World.size_alloc,World.size_alloc] at this;rw[<- hW1];exact this
 have hn1:=fun wq=>j60 g wq
 have hn2:=fun wq=>jBb r wq
 have HAll:=h_ (j7j g W1);clear ht hpp hn hKn hg hW1;refine(callsIn_wide (n:=12)).1 ?_;refine callsIn_of_wp_marks func10 rfl trivial ?_ rfl;simp only[ntmps10,List.size_toArray,List.length_cons,List.length_nil,Nat.reduceAdd,Nat.reduceSub,Array.replicate_succ,Array.replicate_zero,List.push_toArray,List.append_toArray,List.nil_append,List.cons_append];refine wpIn_wide.2 ?_;go_wp2_with fail;rw[HW1.o];refine HAll.o.mono ?_;rintro e w6 ⟨x0,x1,rfl,hb0,hb1,hk6⟩;have HX0:=h_ hb0;have HX1:=h_ hb1;have k6:=HK1.o.trans hk6;have hs6:w.heap.size+3<=w6.heap.size:=by have:=HS1.o;have:=hk6.size;omega
 have HI0:AlI w r 0 (fun i=>i=w.heap.size+2) w6:=⟨HA1.o.b0.kp hk6 (fun x=>x),HA1.o.b1.kp hk6 (fun x=>x),HA1.o.b2.kp hk6 (fun x=>x),fun _=>Iff.rfl,k6⟩;have hgA:=HGA.o w6 k6;clear hb0 hb1 hk6 HAll HW1 HA1 HK1 HS1 hn1 hn2;go_wp2_with fail;generalize hact:Act.mk _ _=a0;refine j11 (α:=(Cc×Value)×List Nat) (N:=Kd.length) (gf:=97) (lb:=#[an (H ⟨x0,0,G⟩),an (H ⟨x1,0,G⟩)]) (by rw[<- hact];rfl) (enters_of func97 (by kernel_rfl) rfl) (encs:=encQ) wtQ (fun _=>rfl) (j0Z w6 Kd) ?hT (fun i=>i=w.heap.size+2) ?hseq (fun j Z W=>AlI w r j Z W) ?hZ ?hZl ?hI (fun _=>False) ?hIx (fun i=>i=w.heap.size+2) HI0 ?hround ?hdone ?hstop
 case hT=>rintro k x Z W ⟨_,_,_,h⟩;exact⟨fun q=>by have:=(h _ q).1;omega,fun q=>by have:=(h _ q).1;omega⟩
 case hseq=>exact j5a g x0 x1 w.heap.size L Kd w6 _ (HG.o _ k6) hgA HOk.o.gd HOk.o.at' HOk.o.len HAl.o.st HAl.o.mem k6.size (fun i e=>by have e':i=w.heap.size+2:=e;omega) HX0.o HX1.o
 case hZ=>
  intro j Z W h;exact⟨fun q=>by have:=(h.z _).1 q;omega,fun q=>by have:=(h.z _).1 q;omega⟩
 case hZl=>
  intro j Z W h;exact⟨fun i hi=>by have:=(h.z _).1 hi;have h2:=h.b2.lt;omega,fun i _ hi=>(h.z _).1 hi⟩
 case hI=>
  intro j Z W W' h q;exact⟨h.b0.kp q (fun e=>by rcases e with e|e <;> omega),h.b1.kp q (fun e=>by rcases e with e|e <;> omega),h.b2.kp q (fun e=>by rcases e with e|e <;> omega),h.z,h.kp.trans' q (fun i hi e=>by rcases e with e|e <;> omega)⟩
 case hIx=>exact fun W W' h _=>h.elim
 case hround=>
  subst hact;rintro j ⟨⟨⟨⟨c,s⟩,a⟩,sl⟩,fp⟩ Z W KK hkN hsW hI ⟨hKk,hown,hnd,hfz⟩ hcont;have O1:=h_ hown.one;have hmem:=(HAl.o.mem _).1 (List.mem_of_getElem? hKk);have HGd:=h_ (HOk.o.gd _ hmem);have HIj:=h_ hI;have HOwn:=h_ hown;have HFz:=h_ hfz;have HSW:Hid (w6.heap.size+2<=W.heap.size/\w.heap.size+3<=w6.heap.size):=⟨hsW,hs6⟩;have hjn:j<n:=by rw[<- HN.o.2.1];exact hkN
  obtain⟨⟨y1,sr⟩,hys⟩:∃y,ys[j]? = H y:=⟨_,List.getElem?_eq_getElem (by rw[HN.o.1];exact hjn)⟩;have hy1:y1=((c,s),a):=by
   have:Kd[j]? = H y1:=(by rw[<- HN.o.2.2.2,List.getElem?_map,hys];rfl);rw[hKk] at this;injection this with this;exact this.symm
  subst hy1;have HYs:=h_ hys;have HJn:=h_ hjn;have HJ2:Hid ((0:Int)<=(j:Int)/\(j:Int)<(n:Int)):=⟨by omega,by omega⟩;have hjb:(j:Int)+1<=9223372036854775807:=by have:=HN.o.2.2.1;omega
  clear hI hKk hown hnd hfz hmem HX0 HX1 HI0 hgA k6 HG HGA hsW hs6 hys hjn hkN;simp only[List.zip_toArray,List.zip_cons_cons,List.zip_nil_right,List.foldl_toArray',List.foldl_cons,List.foldl_nil]
  gi_wp2_with (first
   | (refine j2Z rfl 50 (.tmp 7) (.tmp 23) rfl _ _ _ _ (by first|rfl|simp) rfl rfl rfl D9 (a.one O1.o) ?_)
   | fail)
  refine hcont _ _ (((Kp.refl W Nul).alloc _).alloc _) (fun V hV hloop=>?_);have hW2:Kp W ((W.alloc (.cells #[O I c,O I s] 32)).alloc (.cells (a.cells sl).toArray 50)) Nul:=((Kp.refl W Nul).alloc _).alloc _;have hWV:=(hW2.mono (fun _ _ q=>q.elim)).trans hV;have HbA:=h_ fun wq (k:Kp V wq Nul)=>(((Blk.new W [O I c,O I s] 32).alloc _).kp hV (fun e=>by have e':W.heap.size=w6.heap.size+1:=e;have:=HSW.o;omega)).kp k (fun x=>x)
  have HbC:Hid (∀wq,Kp V wq Nul->Blk wq (W.heap.size+1) (a.cells sl) 50):=fun wq k=>by
   have h1:=Blk.new (W.alloc (.cells #[O I c,O I s] 32)) (a.cells sl) 50;rw[World.size_alloc] at h1;exact(h1.kp hV (fun e=>by have e':W.heap.size+1=w6.heap.size+1:=e;have:=HSW.o;omega)).kp k (fun x=>x)
  have HOwnV:=h_ (HOwn.o.mono (fun i hi=>hWV.block i (F4 (HOwn.o.node i hi)) (fun e=>by have e':i=w6.heap.size+1:=e;have:=(HFz.o i hi).1;omega)));have HIV:Hid (AlI w r j Z V):=⟨HIj.o.b0.kp hWV (fun e=>by have e':w.heap.size=w6.heap.size+1:=e;have:=HSW.o;omega),HIj.o.b1.kp hWV (fun e=>by have e':w.heap.size+1=w6.heap.size+1:=e;have:=HSW.o;omega),HIj.o.b2.kp hWV (fun e=>by have e':w.heap.size+2=w6.heap.size+1:=e;have:=HSW.o;omega),HIj.o.z,HIj.o.kp.trans' hWV (fun i hi e=>by have e':i=w6.heap.size+1:=e;have:=HSW.o;omega)⟩;obtain⟨b,hb⟩:∃b,pp=H ⟨b,0,G⟩:=by
   obtain⟨p',c',e1,hp'⟩:=(HDG.o V HIV.o.kp).pts.slice;injection e1 with e1 e2 e3;obtain⟨b,e5,_,_⟩:=hp' (by have:=(List.getElem?_eq_some_iff.1 HYs.o).1;omega);exact⟨b,e1.trans e5⟩
  subst hb;have HRw:Hid (∀wq,Kp V wq Nul->wq.rangeAt b (j*23) [O I c,O I s]/\wq.rangeAt b (j*23+2) (a.cells sr)):=fun wq k=>by
   obtain⟨p',c',e1,hp'⟩:=(HDG.o wq (HIV.o.kp.trans k)).pts.slice;injection e1 with e1 e2 e3;obtain⟨b',e5,_,hr⟩:=hp' (by have:=(List.getElem?_eq_some_iff.1 HYs.o).1;omega);rw[e5] at e1;injection e1 with e1;injection e1 with e1 _ _;subst e1;exact I9 (hr j _ HYs.o)
  have HV:Hid (∀wq,Kp V wq Nul->wq.cell? ⟨w.heap.size+2,0,G⟩=H (O I (j:Nat))/\wq.cell? ⟨w.heap.size,0,G⟩=H (an (H ⟨r,0,G⟩))/\wq.cell? ⟨r,0,G⟩=H (U (H ⟨b,0,G⟩) n cp)):=fun wq k=>⟨(HIV.o.b2.kp k (fun x=>x)).cell rfl,(HIV.o.b0.kp k (fun x=>x)).cell rfl,HR0.o wq (HIV.o.kp.trans k)⟩
  have HSame:Hid (∀wq,Kp V wq Nul->Calls prog 42 #[T (a.cells sl).toArray,T (a.cells sr).toArray] wq fun e w'=>e=Q (E J)/\Kp wq w' Nul):=fun wq k=>by
   have h:=jCw a a sl sr (fun _=>True) (fun _=>True) wq HGd.o.x HGd.o.x HGd.o.ok HGd.o.ok ((HOwnV.o.isIn (fun _ _=>trivial)).kp k (fun _ _ x=>x)) ((HDG.o wq (HIV.o.kp.trans k)).pts.tree _ (List.mem_of_getElem? HYs.o));rw[j9Z] at h;exact h
  clear hcont hV hW2 hWV hloop
  gi_wp2_with (fail)
  refine j1S ?_;refine j2M (fun w':World=>Kp V w' Nul) (by kernel_rfl) (by kernel_rfl) (j29 (fun a w h=>Or.elim h (fun q=>Exit.noConfusion (And.left q)) (fun q=>Exit.noConfusion (And.left q)))) ((Kp.refl V Nul).drew) (fun hHeld=>?_);refine tk 0 24 hHeld ?_ (v:=O I (j:Nat)) (hy:=by intro w' hSw;have s0:=(HV.o w' hSw).1;clear hSw;go_simp);refine tk 1 25 hHeld ?_ (v:=an (H ⟨r,0,G⟩)) (hy:=by intro w' hSw;have s0:=(HV.o w' hSw).2.1;clear hSw;go_simp);refine tk 2 26 hHeld ?_ (v:=an (H ⟨r,0,G⟩));refine tk 3 27 hHeld ?_ (v:=an (H ⟨r,0,G⟩));refine tk 4 28 hHeld ?_ (v:=U (H ⟨b,0,G⟩) n cp) (hy:=by intro w' hSw;have s0:=(HV.o w' hSw).2.2;clear hSw;go_simp);refine tk 5 29 hHeld ?_ (v:=O I (n:Nat));refine G7 (i:=6) (v:=E R) (H 30) rfl rfl (by kernel_rfl) (fun _ _ _ h=>h) (Or.inl ⟨by rfl,?_⟩) hHeld ?_
  ·intro w' hSw;clear hSw;go_simp;exact HJn.o
  simp only[Act.put,Sz0,Sz1,Sz2];refine tk 7 31 hHeld ?_ (v:=E R);refine tk 8 32 hHeld ?_ (v:=an (H ⟨r,0,G⟩)) (hy:=by intro w' hSw;have s0:=(HV.o w' hSw).2.1;clear hSw;go_simp);refine tk 9 33 hHeld ?_ (v:=an (H ⟨r,0,G⟩));refine tk 10 34 hHeld ?_ (v:=an (H ⟨r,0,G⟩));refine tk 11 35 hHeld ?_ (v:=U (H ⟨b,0,G⟩) n cp) (hy:=by intro w' hSw;have s0:=(HV.o w' hSw).2.2;clear hSw;go_simp);refine tk 12 36 hHeld ?_ (v:=O I (j:Nat)) (hy:=by intro w' hSw;have s0:=(HV.o w' hSw).1;clear hSw;go_simp);refine tk 13 37 hHeld ?_ (v:=an (H ⟨b,j*23,G⟩)) (hy:=by intro w' hSw;have s0:=HJ2.o.1;have s1:=HJ2.o.2;clear hSw;go_simp);refine tk 14 38 hHeld ?_ (v:=an (H ⟨b,j*23,G⟩));refine tk 15 39 hHeld ?_ (v:=T ([O I c,O I s]).toArray) (hy:=by exact fun w' hSw=>q9 _ _ rfl _ _ rfl _ _ ((HRw.o w' hSw).1) underlying32 rfl O0)
  refine tk 16 40 hHeld ?_ (v:=T ([O I c,O I s]).toArray) (hy:=by exact fun w' hSw=>q9 _ _ rfl _ _ rfl _ _ (j5 (HbA.o w' hSw)) underlying32 rfl O0);refine tk 17 41 hHeld ?_ (v:=E R);refine tk 18 42 hHeld ?_ (v:=E R);refine tk 19 43 hHeld ?_ (v:=E R);refine tk 20 44 hHeld ?_ (v:=T (a.cells sl).toArray) (hy:=by exact fun w' hSw=>Y5 _ rfl rfl (HbC.o w' hSw) rfl);refine tk 21 45 hHeld ?_ (v:=an (H ⟨r,0,G⟩)) (hy:=by intro w' hSw;have s0:=(HV.o w' hSw).2.1;clear hSw;go_simp);refine tk 22 46 hHeld ?_ (v:=an (H ⟨r,0,G⟩));refine tk 23 47 hHeld ?_ (v:=an (H ⟨r,0,G⟩));refine tk 24 48 hHeld ?_ (v:=U (H ⟨b,0,G⟩) n cp) (hy:=by intro w' hSw;have s0:=(HV.o w' hSw).2.2;clear hSw;go_simp);refine tk 25 49 hHeld ?_ (v:=O I (j:Nat)) (hy:=by intro w' hSw;have s0:=(HV.o w' hSw).1;clear hSw;go_simp)
  refine tk 26 50 hHeld ?_ (v:=an (H ⟨b,j*23,G⟩)) (hy:=by intro w' hSw;have s0:=HJ2.o.1;have s1:=HJ2.o.2;clear hSw;go_simp);refine tk 27 51 hHeld ?_ (v:=an (H ⟨b,j*23+2,G⟩));refine tk 28 52 hHeld ?_ (v:=T (a.cells sr).toArray) (hy:=by exact fun w' hSw=>q9 _ _ rfl _ _ rfl _ _ ((HRw.o w' hSw).2) underlying50 rfl D9);refine j7W (i:=29) (by kernel_rfl) rfl (by rfl) (fun K hK=>?_);go_simp;refine(HSame.o _ ((Kp.refl V Nul).drew)).mono ?_;rintro e v2 ⟨rfl,hk2⟩;have KV2:=h_ (((Kp.refl V Nul).drew).trans hk2);refine hK.o _ _ KV2.o (fun hHeld=>?_);clear hK K hk2
  (try simp only[Act.put,Sz0,Sz1,Sz2])
  refine tk 30 54 hHeld ?_ (v:=E R);refine tk 31 55 hHeld ?_ (v:=E R);refine wpAnyH_done (by kernel_rfl) ?_ _;refine NoPanic.normal ?_;have hB2:=HIV.o.b2.kp KV2.o (fun x=>x);have z2:=hB2.c_ 0 rfl;have f2:=hB2.froz 0;obtain⟨v3,hv3⟩:=e_ (v2.setCell ⟨w.heap.size+2,0,G⟩ (O I ((j:Int)+1)));have HV3:=h_ hv3;have hk3:Kp v2 v3 (fun i=>i=w.heap.size+2):=by rw[<- hv3];exact(Kp.refl v2 (fun i=>i=w.heap.size+2)).setCell _ _ (.inr rfl)
  have HI3:Hid (AlI w r (j+1) Z v3):=by
   refine⟨(HIV.o.b0.kp KV2.o (fun x=>x)).kp hk3 (fun e=>by have e':w.heap.size=w.heap.size+2:=e;omega),(HIV.o.b1.kp KV2.o (fun x=>x)).kp hk3 (fun e=>by have e':w.heap.size+1=w.heap.size+2:=e;omega),?_,HIV.o.z,(HIV.o.kp.trans KV2.o).trans' hk3 (fun i hi e=>by have e':i=w.heap.size+2:=e;omega)⟩;rw[<- hv3];exact hB2.set 0 _
  have HKV3:Hid (Kp V v3 (fun i=>(Z i∨wtQ ((((c,s),a),sl),fp) i)∨W.heap.size<=i)):=(KV2.o.of_nul).trans (hk3.mono (fun i _ e=>.inl (.inl ((HIV.o.z i).2 e))));clear hk3 hB2 hv3
  gi_wp2_with (first|(rw[HV3.o])|fail)
  first
  | exact .inl ⟨rfl,HKV3.o,Z,HI3.o,fun i hi=>.inl hi⟩
  | exact⟨HKV3.o,Z,HI3.o,fun i hi=>.inl hi⟩
 case hdone=>
  subst hact;intro D Z W hD hI hdef;have HDf:=h_ hdef;have HIe:=h_ hI;have HDD:Hid (w6.heap.size=D/\w.heap.size+3<=w6.heap.size):=⟨hD.symm,hs6⟩;have HS:=h_ fun wq (k:Kp W wq (fun i=>i=w.heap.size+1))=>hI.kp.trans' k (fun i hi e=>by have e':i=w.heap.size+1:=e;omega)
  have HVE:Hid (∀wq,Kp W wq (fun i=>i=w.heap.size+1)->wq.cell? ⟨w.heap.size+2,0,G⟩=H (O I (n:Nat))/\wq.cell? ⟨w.heap.size,0,G⟩=H (an (H ⟨r,0,G⟩))/\wq.cell? ⟨r,0,G⟩=H (U pp n cp)):=fun wq k=>by
   have h2:=(hI.b2.kp k (fun e=>by have e':w.heap.size+2=w.heap.size+1:=e;omega)).cell (i:=0) rfl;rw[HN.o.2.1] at h2;exact⟨h2,(hI.b0.kp k (fun e=>by have e':w.heap.size=w.heap.size+1:=e;omega)).cell rfl,HR0.o wq (HS.o wq k)⟩
  have y1:=hI.b1.drew.c_ 0 rfl;have f1:=hI.b1.drew.froz 0;clear hI hdef hD HI0 hgA k6;go_wp2_with fail;refine wp_region_noPanic ?_;refine I0 (fun w':World=>Kp W w' (fun i=>i=w.heap.size+1)) (by kernel_rfl) ((Kp.refl W _).drew) (fun hHeld=>?_);refine tk 0 58 hHeld ?_ (v:=O I (n:Nat)) (hy:=by intro w' hSw;have s0:=(HVE.o w' hSw).1;clear hSw;go_simp);refine tk 1 59 hHeld ?_ (v:=an (H ⟨r,0,G⟩)) (hy:=by intro w' hSw;have s0:=(HVE.o w' hSw).2.1;clear hSw;go_simp);refine tk 2 60 hHeld ?_ (v:=an (H ⟨r,0,G⟩));refine tk 3 61 hHeld ?_ (v:=an (H ⟨r,0,G⟩));refine tk 4 62 hHeld ?_ (v:=U pp n cp) (hy:=by intro w' hSw;have s0:=(HVE.o w' hSw).2.2;clear hSw;go_simp);refine tk 5 63 hHeld ?_ (v:=O I (n:Nat));refine tk 6 64 hHeld ?_ (v:=E J);refine ts 7 fun K hK=>?_
  go_simp;refine hK.o _ _ (((Kp.refl W (fun i=>i=w.heap.size+1)).setCell ⟨w.heap.size+1,0,G⟩ (E J) (.inr rfl)).drew) (fun hHeld=>?_);clear hK K;refine wpAnyH_done (by kernel_rfl) ?_ _;refine NoPanic.normal ?_;have hX2:(W.setCell ⟨w.heap.size+1,0,G⟩ (E J)).drew.heap[D]? = H (.deferred (H [])):=(heap_setCell_other _ _ _ _ (by show D≠w.heap.size+1;have:=HDD.o;omega)).trans HDf.o;have hB2:=(HIe.o.b1.set 0 (E J)).drew;clear y1 f1;go_wp2_with fail;refine⟨by simp,.inl ⟨_,_,rfl,run_takeDeferred hX2,?_⟩⟩;refine⟨_,j2N rfl rfl (hB2.kp J0 (by show ¬w.heap.size+1=D;have:=HDD.o;omega)),rfl,?_⟩;exact X6 ((HIe.o.kp.setCell ⟨w.heap.size+1,0,G⟩ (E J) (.inl (by show w.heap.size<=w.heap.size+1;omega))).drew) (by have:=HDD.o;omega)
 case hstop=>
  rintro D W hD h hdef;exact h.elim
end
end Go.Proofs.YtecjfnkakodebaaGreatDoor
