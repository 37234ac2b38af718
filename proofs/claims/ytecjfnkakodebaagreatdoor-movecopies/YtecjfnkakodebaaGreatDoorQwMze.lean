/-MoveRefuses: what without's rounds keep. -/
import Derived.Test.YtecjfnkakodebaaGreatDoorQwPrg
import Derived.Test.YtecjfnkakodebaaGreatDoorQwMvl
set_option maxRecDepth 20000
set_option maxHeartbeats 8000000
namespace Go.Proofs.YtecjfnkakodebaaGreatDoor
open Go.RowKit Go.Maps
structure WoI (w:World) (B x5 g2:Nat) (L K:List Cc) (k:Nat) (Z:Nat->Prop) (W:World) (M:List Cc):Prop where
 gi:GridIn W Z g2 M
 ok:Ok17 M
 mem:∀y,y∈M↔y∈L/\y∉K.take k
 oth:Blk W x5 [.pointer (some ⟨g2,0,none⟩)] 24
 kp:Kp w W Nul
 zl:∀i,Z i->i<W.heap.size/\(w.heap.size<=i/\i<x5∨B+2<=i)
 hB:w.heap.size<=x5/\x5<B
section
variable {w W W':World} {B x5 g2:Nat} {L K:List Cc} {k:Nat} {Z:Nat->Prop} {M:List Cc}
theorem WoI.far {S:Nat->Prop} (h:WoI w B x5 g2 L K k Z W M) (g:Kp W W' S) (hZ:∀i,Z i->¬S i) (hb:∀i,i<B->S i->False):WoI w B x5 g2 L K k Z W' M:=
 ⟨h.gi.far' g hZ,h.ok,h.mem,h.oth.kp g (fun e=>hb _ h.hB.2 e),h.kp.trans' g (fun i hi e=>hb i (by have:=h.hB;omega) e),fun i hi=>⟨Nat.lt_of_lt_of_le (h.zl i hi).1 g.size,(h.zl i hi).2⟩,h.hB⟩
theorem WoI.sm (h:WoI w B x5 g2 L K k Z W M) {i:Nat} (hs:Sm W g2 i):Z i:=by
 obtain⟨hF,⟨hb',_⟩|⟨m,D,hb',hm',_⟩⟩:=h.gi
 ·rcases hs with rfl|⟨e,_⟩
  ·exact hF
  ·rw[hb'] at e;simp at e
 ·rcases hs with rfl|⟨e,_⟩
  ·exact hF
  ·rw[hb'] at e
   have em:m=i:=by simpa using e
   rw[<- em];exact hm'
theorem WoI.del {x:Cc} {V X:World} (h:WoI w B x5 g2 L K k Z V M) (hL:∀y∈L,y.1=x.1->y=x) (hx:K[k]? = some x) (hBV:B+2<=V.heap.size)
  (hg:GridIn X (fun i=>Z i∨V.heap.size<=i) g2 (delL M x.1)) (km:Km g2 V X) :
  ∃Z',WoI w B x5 g2 L K (k+1) Z' X (delL M x.1)/\∀i,Z' i->Z i∨V.heap.size<=i:=by
 have hB:=h.hB
 have hn:∀i,i<w.heap.size->¬Sm V g2 i:=fun i hi e=>by rcases(h.zl i (h.sm e)).2 with q|q <;> omega
 have h5:¬Sm V g2 x5:=fun e=>by rcases(h.zl x5 (h.sm e)).2 with q|q <;> omega
 have hkp:=km.kp
 refine⟨fun i=>(Z i∨V.heap.size<=i)/\i<X.heap.size,⟨?_,h.ok.del _,wo_next hL hx h.mem,h.oth.kp hkp h5,h.kp.trans' hkp (fun i hi e=>hn i hi e),fun i hi=>⟨hi.2,?_⟩,hB⟩,fun i hi=>hi.1⟩
 ·exact hg.lows
 ·rcases hi.1 with q|q
  ·exact(h.zl i q).2
  ·exact .inr (by omega)
end
end Go.Proofs.YtecjfnkakodebaaGreatDoor
namespace Go.Proofs.YtecjfnkakodebaaGreatDoor
open Go.RowKit Go.Maps
attribute [local go_sem] Oper.semAt_some
theorem once_eq' {L:List Cc} (h:L.Pairwise (fun x y=>x.1≠y.1)) {x y:Cc} (hy:y∈L) (hx:x∈L) (e:y.1=x.1):y=x:=by
 induction L with
 | nil=>cases hx
 | cons z l ih=>
  rw[List.pairwise_cons] at h
  rcases List.mem_cons.1 hy with rfl|hy'
  ·rcases List.mem_cons.1 hx with rfl|hx'
   ·rfl
   ·exact absurd e (h.1 x hx')
  ·rcases List.mem_cons.1 hx with rfl|hx'
   ·exact absurd e.symm (h.1 y hy')
   ·exact ih h.2 hy' hx'
theorem without_core (g:Nat) (L:List Cc) (A1 A2 A3 A4:Int) (w:World) (hg:GI 0 w g L) (hL:Ok17 L)
  (HCl:Hid (∀w,GI 0 w g L->Calls Tryz.prog 27 #[.pointer (some ⟨g,0,none⟩)] w fun e w'=>∃M,e=.returned (.pointer (some ⟨w.heap.size,0,none⟩))/\GridIn w' (fun i=>w.heap.size<=i) w.heap.size M/\(∀y,y∈M↔y∈L)/\Kp w w' Nul))
  (HIn:Hid (∀w,Calls Tryz.prog 54 #[.pointer (some ⟨g,0,none⟩),.agg #[.int .i64 A1,.int .i64 A2,.int .i64 A3,.int .i64 A4]] w fun e w'=>∃x0 x1,e=.returned (.func (.func 97) #[] #[.pointer (some ⟨x0,0,none⟩),.pointer (some ⟨x1,0,none⟩)])/\Blk w' x0 [.pointer (some ⟨g,0,none⟩)] 24/\Blk w' x1 [.int .i64 A1,.int .i64 A2,.int .i64 A3,.int .i64 A4] 34/\Kp w w' Nul))
  (HPut:Hid (∀(G:Nat->Prop) (g:Nat) (c s:Int) (M:List Cc) (V:World),Kp w V Nul->vC c s=true->GridIn V G g M->Calls Tryz.prog 11 #[.pointer (some ⟨g,0,none⟩),.agg #[.int .i64 c,.int .i64 s],.agg #[.int .i64 0,.int .i64 0,.float .f64 0,.string ⟨#[]⟩,.bool false,.int .i64 0,.int .i64 0,.int .i64 0,.float .f64 0,.string ⟨#[]⟩,.bool false,.int .i64 0,.int .i64 0,.int .i64 0,.bool false,.bool false,.int .i64 0,.int .i64 0,.bool false,.bool false,.slice none 0 0]] V fun e w'=>e=.returned (.int .i64 0)/\GridIn w' G g (delL M (c,s))/\Km g V w')) :
  Calls Tryz.prog 53 #[.pointer (some ⟨g,0,none⟩),.agg #[.int .i64 A1,.int .i64 A2,.int .i64 A3,.int .i64 A4]] w fun e w'=>∃g2 M,e=.returned (.pointer (some ⟨g2,0,none⟩))/\GridIn w' (fun i=>w.heap.size<=i) g2 M/\Ok17 M/\(∀y,y∈M↔y∈L/\y∉inL A1 A2 A3 A4 L)/\w.heap.size<=g2/\Kp w w' Nul:=by
 have HG:Hid (GI 0 w g L):=hg
 have HOk:Hid (Ok17 L):=hL
 obtain⟨W,hW⟩:∃W,w.alloc (.cells #[.int .i64 A1,.int .i64 A2,.int .i64 A3,.int .i64 A4] 34)=W:=⟨_,rfl⟩
 have HW:Hid (w.alloc (.cells #[.int .i64 A1,.int .i64 A2,.int .i64 A3,.int .i64 A4] 34)=W):=hW
 have kW:Hid (Kp w W Nul):=by show Kp _ _ _;rw[<- hW];exact(Kp.refl w Nul).alloc _
 have HB0:Hid (Blk W w.heap.size [.int .i64 A1,.int .i64 A2,.int .i64 A3,.int .i64 A4] 34):=by show Blk _ _ _ _;rw[<- hW];exact Blk.new w _ _
 have HS:Hid (W.heap.size=w.heap.size+1):=by show _=_;rw[<- hW];simp
 clear hW hg hL
 refine(callsIn_wide (n:=12)).1 ?_
 refine callsIn_of_wp_marks Tryz.func53 rfl trivial ?_ rfl
 simp only[Tryz.ntmps53,List.size_toArray,List.length_cons,List.length_nil,Nat.reduceAdd,Nat.reduceSub,Array.replicate_succ,Array.replicate_zero,List.push_toArray,List.append_toArray,List.nil_append,List.cons_append]
 refine wpIn_wide.2 ?_
 go_wp2_with fail
 rw[HW.out]
 clear HW
 refine(HCl.out W (HG.out.kp kW.out)).mono ?_
 rintro e w1 ⟨M,rfl,hgi,hmem,hk1⟩
 have K1:Hid (Kp W w1 Nul):=hk1
 have HGi:Hid (GridIn w1 (fun i=>W.heap.size<=i) W.heap.size M):=hgi
 have HMem:Hid (∀y,y∈M↔y∈L):=hmem
 obtain⟨W2,hW2⟩:∃W2,w1.alloc (.cells #[.pointer (some ⟨W.heap.size,0,none⟩)] 24)=W2:=⟨_,rfl⟩
 have HW2:Hid (w1.alloc (.cells #[.pointer (some ⟨W.heap.size,0,none⟩)] 24)=W2):=hW2
 have k12:Kp w1 W2 Nul:=by rw[<- hW2];exact(Kp.refl _ _).alloc _
 have K2:Hid (Kp W W2 Nul):=hk1.trans k12
 have HO2:Hid (Blk W2 w1.heap.size [.pointer (some ⟨W.heap.size,0,none⟩)] 24):=by show Blk _ _ _ _;rw[<- hW2];exact Blk.new w1 _ _
 have HG2:Hid (GridIn W2 (fun i=>W.heap.size<=i/\i<w1.heap.size) W.heap.size M):=hgi.lows.kp k12
 have d0:(w1.alloc (.cells #[.pointer (some ⟨W.heap.size,0,none⟩)] 24)).cell? ⟨w.heap.size,0,none⟩=some (.int .i64 A1):=by rw[hW2];exact(HB0.out.kp K2.out (fun x=>x)).cell rfl
 have d1:(w1.alloc (.cells #[.pointer (some ⟨W.heap.size,0,none⟩)] 24)).cell? ⟨w.heap.size,1,none⟩=some (.int .i64 A2):=by rw[hW2];exact(HB0.out.kp K2.out (fun x=>x)).cell rfl
 have d2:(w1.alloc (.cells #[.pointer (some ⟨W.heap.size,0,none⟩)] 24)).cell? ⟨w.heap.size,2,none⟩=some (.int .i64 A3):=by rw[hW2];exact(HB0.out.kp K2.out (fun x=>x)).cell rfl
 have d3:(w1.alloc (.cells #[.pointer (some ⟨W.heap.size,0,none⟩)] 24)).cell? ⟨w.heap.size,3,none⟩=some (.int .i64 A4):=by rw[hW2];exact(HB0.out.kp K2.out (fun x=>x)).cell rfl
 clear hgi hmem hk1 hW2 k12 HGi
 go_wp2_with fail
 rw[HW2.out] at d0 d1 d2 d3 ⊢
 clear HW2 d0 d1 d2 d3
 refine(HIn.out _).mono ?_
 rintro e w3 ⟨x0,x1,rfl,hb0,hb1,hk3⟩
 have HX:Hid (Blk w3 x0 [.pointer (some ⟨g,0,none⟩)] 24/\Blk w3 x1 [.int .i64 A1,.int .i64 A2,.int .i64 A3,.int .i64 A4] 34):=⟨hb0,hb1⟩
 have K3:Hid (Kp W w3 Nul):=K2.out.trans hk3
 have HO3:Hid (Blk w3 w1.heap.size [.pointer (some ⟨W.heap.size,0,none⟩)] 24):=HO2.out.kp hk3 (fun x=>x)
 have HG3:Hid (GridIn w3 (fun i=>W.heap.size<=i/\i<w1.heap.size) W.heap.size M):=HG2.out.kp hk3
 have HL3:Hid (w1.heap.size<w3.heap.size):=HO3.out.lt
 have HL1:Hid (W.heap.size<=w1.heap.size):=K1.out.size
 clear hb0 hb1 hk3 HIn HCl HO2 HG2
 go_wp2_with fail
 obtain⟨K,hKs,hKm⟩:=in_order (inL_once (m1:=A1) (m2:=A2) (m3:=A3) (m4:=A4) (L:=L) rfl HG.out.once)
 have HKs:Hid (Strict (K.map (·.1))):=hKs
 have HKm:Hid (∀x,x∈K↔x∈inL A1 A2 A3 A4 L):=hKm
 have HOkM:Hid (Ok17 M):=⟨fun x hx=>HOk.out.gd x ((HMem.out x).1 hx),fun x hx=>HOk.out.at' x ((HMem.out x).1 hx),by
  have:=nodup_le (M.map (·.1)) (L.map (·.1)) (List.nodup_iff_pairwise_ne.2 (List.pairwise_map.2 HG3.out.once')) (fun x hx=>by
   obtain⟨y,hy,rfl⟩:=List.mem_map.1 hx
   exact List.mem_map.2 ⟨y,(HMem.out y).1 hy,rfl⟩)
  rw[List.length_map,List.length_map] at this
  exact Nat.le_trans this HOk.out.len⟩
 clear hKs hKm
 have hL3:=HL3.out
 have hL1:=HL1.out
 generalize hact:Act.mk _ _=a0
 refine wp_range_ow3 (α:=(Cc×Value)×List Nat) (N:=K.length) (gf:=97) (lb:=#[.pointer (some ⟨x0,0,none⟩),.pointer (some ⟨x1,0,none⟩)]) (by rw[<- hact];rfl) (enters_of Tryz.func97 (by kernel_rfl) rfl) (encs:=encQ) wtQ (fun _=>rfl) (TellQ w3 K) ?hT (fun i=>W.heap.size<=i/\i<w1.heap.size) ?hseq (fun k Z V=>∃M,WoI W w3.heap.size w1.heap.size W.heap.size L K k Z V M) ?hZ ?hZl ?hI (fun _=>False) ?hIx (fun i=>W.heap.size<=i/\i<w1.heap.size) ?h0 ?hround ?hdone ?hstop
 case hT=>rintro k x Z V ⟨_,_,_,h⟩;exact⟨fun q=>by have:=(h _ q).1;omega,fun q=>by have:=(h _ q).1;omega⟩
 case hseq=>
  refine in1_any g x0 x1 (fun i=>i<W.heap.size) A1 A2 A3 A4 L _ K rfl w3 _ ((HG.out.kp kW.out).kp K3.out) ((show GI 0 W g L from HG.out.kp kW.out).low.kp K3.out) HOk.out.gd HOk.out.at' HOk.out.len HKs.out HKm.out (fun i e=>?_) (fun i e q=>?_) HX.out.1 HX.out.2
  ·have e':i<W.heap.size:=e
   omega
  ·have e':W.heap.size<=i:=e.1
   have q':i<W.heap.size:=q
   omega
 case hZ=>
  rintro k Z V ⟨M',h⟩
  exact⟨fun q=>by rcases(h.zl _ q).2 with e|e <;> omega,fun q=>by rcases(h.zl _ q).2 with e|e <;> omega⟩
 case hZl=>
  rintro k Z V ⟨M',h⟩
  exact⟨fun i hi=>(h.zl i hi).1,fun i hlt hi=>by rcases(h.zl i hi).2 with e|e;exact e;omega⟩
 case hI=>
  rintro k Z V V' ⟨M',h⟩ q
  exact⟨M',h.far q (fun i hi e=>by rcases(h.zl _ hi).2 with q|q <;> rcases e with e|e <;> omega) (fun i hi e=>by rcases e with e|e <;> omega)⟩
 case hIx=>exact fun _ _ h _=>h
 case h0=>exact⟨M,HG3.out,HOkM.out,fun y=>by rw[HMem.out y];simp,HO3.out,K3.out,fun i hi=>⟨by have:=hi.2;omega,.inl hi⟩,hL1,hL3⟩
 case hstop=>exact fun _ _ _ h=>h.elim
 case hround=>
  subst hact
  rintro k ⟨⟨⟨⟨c,s⟩,a⟩,sl⟩,fp⟩ Z V0 KK hkN hsW ⟨M',hI⟩ ⟨hKk,_,_,_⟩ hcont
  have HI:Hid (WoI W w3.heap.size w1.heap.size W.heap.size L K k Z V0 M'):=hI
  have HKk:Hid (K[k]? = some ((c,s),a)):=hKk
  have HSW:Hid (w3.heap.size+2<=V0.heap.size):=hsW
  clear hI hKk hsW HX HO3 HG3
  simp only[List.zip_toArray,List.zip_cons_cons,List.zip_nil_right,List.foldl_toArray',List.foldl_cons,List.foldl_nil]
  gi_wp2_with (fail)
  refine hcont _ _ ((Kp.refl V0 Nul).alloc _) (fun V hV _=>?_)
  have hWV:Kp V0 V (fun i=>i=w3.heap.size+1):=(((Kp.refl V0 Nul).alloc _).mono (fun _ _ q=>q.elim)).trans hV
  have HIV:Hid (WoI W w3.heap.size w1.heap.size W.heap.size L K k Z V M'):=HI.out.far hWV (fun i hi e=>by have e':i=w3.heap.size+1:=e;rcases(HI.out.zl i hi).2 with q|q <;> omega) (fun i hi e=>by have e':i=w3.heap.size+1:=e;omega)
  have HbA:Hid (Blk V V0.heap.size [.int .i64 c,.int .i64 s] 32):=(Blk.new V0 [.int .i64 c,.int .i64 s] 32).kp hV (fun e=>by have e':V0.heap.size=w3.heap.size+1:=e;have:=HSW.out;omega)
  have c0:V.cell? ⟨w1.heap.size,0,none⟩=some (.pointer (some ⟨W.heap.size,0,none⟩)):=HIV.out.oth.cell rfl
  have a0:V.cell? ⟨V0.heap.size,0,none⟩=some (.int .i64 c):=HbA.out.cell rfl
  have a1:V.cell? ⟨V0.heap.size,1,none⟩=some (.int .i64 s):=HbA.out.cell rfl
  clear hcont hV
  gi_wp2_with (fail)
  clear c0 a0 a1
  have hxL:((c,s),a)∈L:=((inL_iff rfl).1 ((HKm.out _).1 (List.mem_of_getElem? HKk.out))).1
  have hv:vC c s=true:=HOk.out.at' _ hxL
  refine⟨trivial,(callsIn_wide.2 (HPut.out (fun i=>Z i∨V.heap.size<=i) W.heap.size c s M' V (kW.out.trans HIV.out.kp) hv (HIV.out.gi.mono (fun i hi=>.inl hi)))).mono ?_⟩
  rintro e X ⟨rfl,hgX,hkm⟩
  have hVs:w3.heap.size+2<=V.heap.size:=Nat.le_trans HSW.out hWV.size
  obtain⟨Z',hZ1,hZ2⟩:=HIV.out.del (x:=((c,s),a)) (fun y hy e=>once_eq' HG.out.once hy hxL e) HKk.out hVs hgX hkm
  have HZ:Hid (∃Z',(∃M,WoI W w3.heap.size w1.heap.size W.heap.size L K (k+1) Z' X M)/\More Z Z' V0):=⟨Z',⟨_,hZ1⟩,fun i hi=>(hZ2 i hi).imp id (fun q=>Nat.le_trans hWV.size q)⟩
  have HKX:Hid (Kp V X (fun i=>(Z i∨wtQ ((((c,s),a),sl),fp) i)∨V0.heap.size<=i)):=hkm.kp.mono (fun i _ e=>.inl (.inl (HIV.out.sm e)))
  clear hZ1 hZ2 hgX hkm
  gi_wp2_with (fail)
  exact⟨HKX.out,HZ.out⟩
 case hdone=>
  subst hact
  rintro D Z V hD ⟨M',h⟩ hDf
  have HI:Hid (WoI W w3.heap.size w1.heap.size W.heap.size L K K.length Z V M'):=h
  have HDf:Hid (V.heap[D]? = some (.deferred (some []))):=hDf
  have HD:Hid (D=w3.heap.size):=hD
  have c0:V.cell? ⟨w1.heap.size,0,none⟩=some (.pointer (some ⟨W.heap.size,0,none⟩)):=h.oth.cell rfl
  clear h hDf hD
  go_wp2_with fail
  have hS:=HS.out
  have hd:=HD.out
  have hne:∀i,Z i->¬i=D:=fun i hi e=>by rcases(HI.out.zl i hi).2 with q|q <;> omega
  refine⟨by simp,.inl ⟨_,_,rfl,run_takeDeferred HDf.out,?_⟩⟩
  refine⟨.pointer (some ⟨W.heap.size,0,none⟩),?res,W.heap.size,M',rfl,(HI.out.gi.far' putObj_self hne).mono (fun i hi=>?_),HI.out.ok,fun y=>?_,by omega,?_⟩
  case res=>simp[results,Tryz.f53]
  ·rcases(HI.out.zl i hi).2 with q|q <;> omega
  ·rw[wo_end HI.out.mem y]
   exact⟨fun q=>⟨q.1,fun e=>q.2 ((HKm.out y).2 e)⟩,fun q=>⟨q.1,fun e=>q.2 ((HKm.out y).1 e)⟩⟩
  ·exact putObj_kp (kW.out.trans HI.out.kp) (by omega)
theorem in_all (g:Nat) (m1 m2 m3 m4:Int) (w:World):Calls Tryz.prog 54 #[.pointer (some ⟨g,0,none⟩),.agg #[.int .i64 m1,.int .i64 m2,.int .i64 m3,.int .i64 m4]] w fun e w'=>∃x0 x1,e=.returned (.func (.func 97) #[] #[.pointer (some ⟨x0,0,none⟩),.pointer (some ⟨x1,0,none⟩)])/\Blk w' x0 [.pointer (some ⟨g,0,none⟩)] 24/\Blk w' x1 [.int .i64 m1,.int .i64 m2,.int .i64 m3,.int .i64 m4] 34/\Kp w w' Nul:=by
 obtain⟨W,hW⟩:∃W,(w.alloc (.cells #[.pointer (some ⟨g,0,none⟩)] 24)).alloc (.cells #[.int .i64 m1,.int .i64 m2,.int .i64 m3,.int .i64 m4] 34)=W:=⟨_,rfl⟩
 have HW:Hid ((w.alloc (.cells #[.pointer (some ⟨g,0,none⟩)] 24)).alloc (.cells #[.int .i64 m1,.int .i64 m2,.int .i64 m3,.int .i64 m4] 34)=W):=hW
 have HK:Hid (Kp w W Nul):=by show Kp w W Nul;rw[<- hW];exact((Kp.refl w Nul).alloc _).alloc _
 have HB0:Hid (Blk W w.heap.size [.pointer (some ⟨g,0,none⟩)] 24):=by show Blk _ _ _ _;rw[<- hW];exact(Blk.new w [.pointer (some ⟨g,0,none⟩)] _).alloc _
 have HB1:Hid (Blk W (w.heap.size+1) [.int .i64 m1,.int .i64 m2,.int .i64 m3,.int .i64 m4] 34):=by
  have:=Blk.new (w.alloc (.cells #[.pointer (some ⟨g,0,none⟩)] 24)) [.int .i64 m1,.int .i64 m2,.int .i64 m3,.int .i64 m4] 34
  rw[World.size_alloc] at this
  show Blk _ _ _ _
  rw[<- hW];exact this
 clear hW
 go_enter Tryz.func54,Tryz.ntmps54
 go_wp2_with fail
 rw[HW.out]
 go_ret
 exact⟨_,_,rfl,HB0.out,HB1.out,HK.out⟩
theorem without_at (g:Nat) (L:List Cc) (A1 A2 A3 A4:Int) (w:World) (hg:GI 0 w g L) (hL:Ok17 L) (hv:VS w) :
  Calls Tryz.prog 53 #[.pointer (some ⟨g,0,none⟩),.agg #[.int .i64 A1,.int .i64 A2,.int .i64 A3,.int .i64 A4]] w fun e w'=>∃g2 M,e=.returned (.pointer (some ⟨g2,0,none⟩))/\GridIn w' (fun i=>w.heap.size<=i) g2 M/\Ok17 M/\(∀y,y∈M↔y∈L/\y∉inL A1 A2 A3 A4 L)/\w.heap.size<=g2/\Kp w w' Nul:=
 without_core g L A1 A2 A3 A4 w hg hL (fun w h=>clone_at g L w h hL) (fun w=>in_all g A1 A2 A3 A4 w)
  (fun G g c s M V k hc h=>put_dm G g c s hc ct0 rfl (.slice none 0 0) M V h (fun wq kq=>by
   have q:=gv_at ct0 (.slice none 0 0) (fun _=>True) wq zNd_ok (zNd_in _ _) (hv.kp (k.trans kq))
   rw[gv0] at q
   exact q))
end Go.Proofs.YtecjfnkakodebaaGreatDoor
namespace Go.Proofs.YtecjfnkakodebaaGreatDoor
open Go.RowKit Go.Maps
theorem putCopy_plain (g:Nat) (c s t1 t2 k:Int) (cs:List Value) (hk:¬k=2) (h20:cs.length=20) (R:Int->World->Prop) (w:World)
  (HP:Hid (∀wq,Kp w wq Nul->Calls Tryz.prog 11 #[.pointer (some ⟨g,0,none⟩),.agg #[.int .i64 c,.int .i64 s],.agg (Value.int .i64 k::cs).toArray] wq fun e w'=>∃er,e=.returned (.int .i64 er)/\R er w')) :
  Calls Tryz.prog 55 #[.pointer (some ⟨g,0,none⟩),.agg #[.int .i64 c,.int .i64 s],.agg (Value.int .i64 k::cs).toArray,.agg #[.int .i64 t1,.int .i64 t2]] w fun e w'=>∃er,e=.returned (.int .i64 er)/\R er w':=by
 obtain⟨W,hW⟩:∃W,((w.alloc (.cells #[.int .i64 c,.int .i64 s] 32)).alloc (.cells (Value.int .i64 k::cs).toArray 50)).alloc (.cells #[.int .i64 t1,.int .i64 t2] 32)=W:=⟨_,rfl⟩
 have HW:Hid (((w.alloc (.cells #[.int .i64 c,.int .i64 s] 32)).alloc (.cells (Value.int .i64 k::cs).toArray 50)).alloc (.cells #[.int .i64 t1,.int .i64 t2] 32)=W):=hW
 have kW:Hid (Kp w W Nul):=by show Kp _ _ _;rw[<- hW];exact(((Kp.refl w Nul).alloc _).alloc _).alloc _
 have b0:Blk W w.heap.size [.int .i64 c,.int .i64 s] 32:=by rw[<- hW];exact((Blk.new w [.int .i64 c,.int .i64 s] _).alloc _).alloc _
 have b1:Blk W (w.heap.size+1) (Value.int .i64 k::cs) 50:=by
  have:=Blk.new (w.alloc (.cells #[.int .i64 c,.int .i64 s] 32)) (Value.int .i64 k::cs) 50
  rw[World.size_alloc] at this
  rw[<- hW];exact this.alloc _
 have HR:Hid (W.rangeAt (w.heap.size+1) 0 (Value.int .i64 k::cs)):=fun j v hj=>by rw[Nat.zero_add];exact b1.cell hj
 have HI:Hid ((Tryz.prog.info? 50).map (·.size)=some (Value.int .i64 k::cs).length):=by show _=_;rw[infoContent,List.length_cons,h20]
 have c0:W.cell? ⟨w.heap.size+1,0,none⟩=some (.int .i64 k):=b1.cell rfl
 have a0:W.cell? ⟨w.heap.size,0,none⟩=some (.int .i64 c):=b0.cell rfl
 have a1:W.cell? ⟨w.heap.size,1,none⟩=some (.int .i64 s):=b0.cell rfl
 clear HW b0 b1 h20
 go_enter Tryz.func55,Tryz.ntmps55
 go_wp2_with (first
  | (refine wpList_load_mid rfl 50 (.tmp 6) rfl (w.heap.size+1) 0 rfl (Value.int .i64 k::cs) _ HR.out Tryz.underlying50 rfl HI.out ?_)
  | fail)
 refine(HP.out _ kW.out).mono ?_
 rintro e w1 ⟨er,rfl,hr⟩
 have HRr:Hid (R er w1):=hr
 clear hr
 go_wp2_with fail
 go_ret
 first
 | exact⟨er,rfl,HRr.out⟩
 | exact HRr.out
end Go.Proofs.YtecjfnkakodebaaGreatDoor
