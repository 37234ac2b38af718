/-Move: byLines, Rows, Cols. -/
import Derived.Test.YtecjfnkakodebaaGreatDoorQwMvl
set_option maxRecDepth 100000
set_option maxHeartbeats 16000000
namespace Go.Proofs.YtecjfnkakodebaaGreatDoor
open Go.RowKit
inductive LnR (cols:Bool) (at' n:Int) (L:List Cc) (w w':World):Value->Prop
 | bad (h:¬lnOk cols at' n) (k:Kp w w' Nul):LnR cols at' n L w w' (.tuple #[.pointer none,.int .i64 1])
 | off (h:lnOk cols at' n) (hn:0<n) (hl:lostB (lnF cols at' n) L=true) (k:Kp w w' Nul):LnR cols at' n L w w' (.tuple #[.pointer none,.int .i64 20])
 | ok (h:lnOk cols at' n) (hl:¬(0<n/\lostB (lnF cols at' n) L=true)) (g2:Nat) (M:List Cc) (hb:BrR (lnF cols at' n) L w w' g2 M):LnR cols at' n L w w' (.tuple #[.pointer (some ⟨g2,0,none⟩),.int .i64 0])
theorem byLines_at (cols:Bool) (at' n:Int) (g:Nat) (L:List Cc) (w:World) (hg:GI 0 w g L) (hL:Ok17 L) (hv:VS w) :
  Calls Tryz.prog 65 #[.pointer (some ⟨g,0,none⟩),.bool cols,.int .i64 at',.int .i64 n] w fun e w'=>∃v,e=.returned v/\LnR cols at' n L w w' v:=by
 by_cases hl:lnOk cols at' n
 ·have HO:Hid (∀w,Calls Tryz.prog 107 #[.bool cols,.int .i64 at',.int .i64 n] w fun e w'=>∃xc xr,e=.returned (.tuple #[.agg #[fateF xc xr],.int .i64 0])/\KeptIn w' xc xr cols at' n/\Kp w w' Nul):=fun w=>ofLines_ok cols at' n hl w
  have HB:Hid (∀xc xr wq,Kp w wq Nul->KeptIn wq xc xr cols at' n->Calls Tryz.prog 64 #[.agg #[fateF xc xr],.pointer (some ⟨g,0,none⟩)] wq fun e w'=>∃g2 M,e=.returned (.tuple #[.pointer (some ⟨g2,0,none⟩),.bool (lostB (lnF cols at' n) L)])/\BrR (lnF cols at' n) L wq w' g2 M):=fun xc xr wq k hk=>brought_at xc xr cols at' n hl g L wq (hg.kp k) hL hk (hv.kp k)
  have HBR:Hid (∀wq w' g2 M,Kp w wq Nul->BrR (lnF cols at' n) L wq w' g2 M->BrR (lnF cols at' n) L w w' g2 M):=fun wq w' g2 M k h=>⟨h.gi.mono (fun i hi=>Nat.le_trans k.size hi),h.ok,h.mem,Nat.le_trans k.size h.lo,k.trans h.kp⟩
  have HL:Hid (lnOk cols at' n):=hl
  clear hl hg hL hv
  go_enter Tryz.func65,Tryz.ntmps65
  go_wp2_with fail
  refine(HO.out w).mono ?_
  rintro e w1 ⟨xc,xr,rfl,hk1,hkp1⟩
  have K1:Hid (Kp w w1 Nul):=hkp1
  have HK1:Hid (KeptIn w1 xc xr cols at' n):=hk1
  clear hk1 hkp1
  go_wp2_with fail
  refine(HB.out xc xr _ (K1.out.alloc _) (HK1.out.kp ((Kp.refl _ _).alloc _))).mono ?_
  rintro e w2 ⟨g2,M,rfl,hbr⟩
  have HBr:Hid (BrR (lnF cols at' n) L w w2 g2 M):=HBR.out _ w2 g2 M (K1.out.alloc _) hbr
  clear hbr HB HBR K1 HK1 HO
  obtain⟨lo,hlo⟩:∃lo,lostB (lnF cols at' n) L=lo:=⟨_,rfl⟩
  rw[hlo]
  have HLo:Hid (lostB (lnF cols at' n) L=lo):=hlo
  clear hlo
  by_cases hn:0<n
  ·cases lo
   ·go_wp2_with fail
    go_ret2
    first
    | exact⟨_,rfl,.ok HL.out (fun q=>by rw[HLo.out] at q;exact absurd q.2 (by decide)) g2 M HBr.out⟩
    | exact .ok HL.out (fun q=>by rw[HLo.out] at q;exact absurd q.2 (by decide)) g2 M HBr.out
   ·go_wp2_with fail
    go_ret2
    first
    | exact⟨_,rfl,.off HL.out hn HLo.out HBr.out.kp⟩
    | exact .off HL.out hn HLo.out HBr.out.kp
  ·have hn':n<=0:=by omega
   have hd:decide (0<n)=false:=by simp;omega
   cases lo <;>
   ·go_wp2_with fail
    go_ret2
    refine⟨.tuple #[.pointer (some ⟨g2,0,none⟩),.int .i64 0],?_,LnR.ok HL.out (fun q=>by omega) g2 M HBr.out⟩
    first
    | rfl
    | simp
 ·have HO:Hid (Calls Tryz.prog 107 #[.bool cols,.int .i64 at',.int .i64 n] w fun e w'=>e=.returned (.tuple #[.agg #[.nilFunc],.int .i64 1])/\Kp w w' Nul):=ofLines_no cols at' n hl w
  have HR:Hid (∀w',Kp w w' Nul->LnR cols at' n L w w' (.tuple #[.pointer none,.int .i64 1])):=fun w' k=>.bad hl k
  clear hl hg hL hv
  go_enter Tryz.func65,Tryz.ntmps65
  go_wp2_with fail
  refine HO.out.mono ?_
  rintro e w1 ⟨rfl,hkp1⟩
  have K1:Hid (Kp w w1 Nul):=hkp1
  clear hkp1
  go_wp2_with fail
  go_ret2
  first
  | exact⟨_,rfl,HR.out _ (K1.out.alloc _)⟩
  | exact HR.out _ (K1.out.alloc _)
theorem rows_at (at' n:Int) (g:Nat) (L:List Cc) (w:World) (hg:GI 0 w g L) (hL:Ok17 L) (hv:VS w) :
  Calls Tryz.prog 30 #[.pointer (some ⟨g,0,none⟩),.int .i64 at',.int .i64 n] w fun e w'=>∃v,e=.returned v/\LnR false at' n L w w' v:=by
 have H:Hid (Calls Tryz.prog 65 #[.pointer (some ⟨g,0,none⟩),.bool false,.int .i64 at',.int .i64 n] w fun e w'=>∃v u,e=.returned (.tuple #[v,u])/\LnR false at' n L w w' (.tuple #[v,u])):=(byLines_at false at' n g L w hg hL hv).mono (by
  rintro e w' ⟨v,rfl,h⟩
  cases h with
  | bad h k=>exact⟨_,_,rfl,.bad h k⟩
  | off h hn hl k=>exact⟨_,_,rfl,.off h hn hl k⟩
  | ok h hl g2 M hb=>exact⟨_,_,rfl,.ok h hl g2 M hb⟩)
 clear hg hL hv
 go_enter Tryz.func30,Tryz.ntmps30
 go_wp2_with fail
 refine H.out.mono ?_
 rintro e w1 ⟨v,u,rfl,h⟩
 have HR:Hid (LnR false at' n L w w1 (.tuple #[v,u])):=h
 clear h
 go_wp2_with fail
 go_ret2
 first
 | exact⟨_,rfl,HR.out⟩
 | exact HR.out
theorem chk_size {t:Nd} (h:chk t=0):t.size<=256:=by
 unfold chk at h
 by_cases q:256<t.size
 ·rw[if_pos q] at h;omega
 ·omega
theorem results_row_tmp {P:Program} {fn:Func} {p u:Tmp} {ty:TypeId} (h:fn.results=#[.cell p ty,.tmp u]) (tmps:Array Value) (w:World) (g:Nat) (t:TypeId) (cs:Array Value) (fr:Nat×Nat) (d:TypeDesc)
  (hp:tmps.getD p undef=.pointer (some ⟨g,0,none⟩)) (hg:w.heap[g]? = some (.cells cs t fr))
  (hu:P.underlying ty=some d) (hd:(match d with | .struct _ | .array _ _=>true|_=>false)=true) (hi:(P.info? ty).map (·.size)=some cs.size) :
  (results fn tmps).run P w=.ok (.tuple #[.agg cs,tmps.getD u undef]) w:=by
 have hp':tmps[p]?.getD undef=.pointer (some ⟨g,0,none⟩):=by simpa using hp
 simp[results,h,hp',asAddr,run_loadVar_row w g t ty cs fr d hg hu hd hi]
theorem rangeAt_blk {w:World} {b:Nat} {cs:List Value} {t:TypeId} (h:w.heap[b]? = some (.cells cs.toArray t (0,0))):w.rangeAt b 0 cs:=rangeAt_mid (pre:=[]) (l:=cs) (post:=[]) (by simpa using h)
end Go.Proofs.YtecjfnkakodebaaGreatDoor
namespace Go.Proofs.YtecjfnkakodebaaGreatDoor
open Go.RowKit Go.Maps
def ctR (c r:Int):Ct:=⟨2,⟨0,0,⟨#[]⟩,false,0⟩,.mk { zHd with k:=5,c1:=c,r1:=r } []⟩
theorem chkR (c r:Int) (h:vC c r=true):chk (ctR c r).t=0:=by
 have hw:wm { zHd with k:=5,c1:=c,r1:=r } 0=true:=by
  unfold wm
  simp[wmJ,hsame,fsame_self]
 have hv:vA c r c r=true:=by
  unfold vA;rw[h];simp
 have ho:ownE { zHd with k:=5,c1:=c,r1:=r } 0 false=0:=by
  unfold ownE
  rw[hw]
  simp[hv]
 unfold chk ctR
 rw[Nd.size,sizeL,Nd.dep,depL,Nd.fe,feL]
 simp[ho]
theorem gvR (c r:Int) (h:vC c r=true):gv (ctR c r)=true:=by
 unfold gv validC
 rw[chkR c r h]
 simp[ctR,zeroV,bareV]
theorem cpR (c r:Int):cpC (ctR c r)=ctR c r:=by
 unfold cpC ctR
 rw[cpy,cpyL]
 have:one 0=0:=by decide
 simp[zHd,this]
theorem gdR (c r:Int) (h:vC c r=true):Gd (ctR c r):=⟨gvR c r h,by show (2:Int)≠0;decide,by show (Nd.mk _ []).ok;rw[Nd.ok,okL];exact⟨by show (0:Nat)<_;decide,trivial⟩,by show (0:Nat)<_;decide,by show (Nd.mk _ []).size<=_;rw[Nd.size,sizeL];decide,cpR c r⟩
theorem alR (f:Fate) (c r:Int) {b:Ar4} (h:f ((c,r),(c,r))=some b):alC f (ctR c r)=ctR b.1.1 b.1.2:=by
 unfold alC ctR
 simp only
 rw[alN,if_pos (.inl rfl)]
 unfold nmN
 have e:nmA (Nd.mk { zHd with k:=5,c1:=c,r1:=r } []).hd=((c,r),(c,r)):=by simp[Nd.hd,nmA]
 rw[e,h]
 simp[toH,Nd.hd,Nd.ts]
theorem gv7:gv ct7=true:=by
 have h1:bareV ct7.v=true:=by simp[bareV,ct7]
 have h2:zeroN ct7.t=true:=zeroN_z
 unfold gv validC validV
 rw[h1,h2]
 simp[ct7]
theorem gd7:Gd ct7:=⟨gv7,by show (1:Int)≠0;decide,zNd_ok,by decide,by show zNd.size<=_;rw[zsize];decide,cp7⟩
theorem ln12:lnOk false 1 2:=⟨by decide,by decide,by decide,by decide⟩
theorem thr_a (c:Int) (h:1<=c/\c<=256):thr 1 0 256 c c=some (c,c):=by
 unfold thr
 simp only[if_neg (show ¬(0:Int)<0 by decide)]
 rw[if_neg (by omega),if_pos (by omega)]
 have e1:max c 1+0=c:=by omega
 have e2:min c (256-0)+0=c:=by omega
 rw[e1,e2]
theorem thr_b:thr 1 2 4096 1 1=some (3,3):=by decide
theorem ln12_at (c:Int) (h:1<=c/\c<=256):lnF false 1 2 ((c,1),(c,1))=some ((c,3),(c,3)):=by
 unfold lnF
 simp only[Bool.false_eq_true,if_false,thr_a c h,thr_b]
def LK:List Cc:=putL (putL [] (1,1) ct7) (2,1) (ctR 1 1)
theorem LK_is:LK=[((2,1),ctR 1 1),((1,1),ct7)]:=by
 unfold LK putL
 simp
theorem brLK (y:Cc):y∈brL (lnF false 1 2) LK↔y=((2,3),ctR 1 3)∨y=((1,3),ct7):=by
 rw[LK_is,brL_mem]
 have h2:=ln12_at 2 (by decide)
 have h1:=ln12_at 1 (by decide)
 have e2:alC (lnF false 1 2) (ctR 1 1)=ctR 1 3:=alR _ 1 1 h1
 have e1:alC (lnF false 1 2) ct7=ct7:=alC_plain _ gv7 (by decide)
 constructor
 ·rintro⟨x,hx,b,hb,rfl⟩
  rcases List.mem_cons.1 hx with rfl|hx
  ·left
   rw[h2] at hb
   injection hb with hb
   rw[<- hb,e2]
  ·rw[List.mem_singleton] at hx
   subst hx
   right
   rw[h1] at hb
   injection hb with hb
   rw[<- hb,e1]
 ·rintro(rfl|rfl)
  ·exact⟨_,List.mem_cons_self,_,h2,by rw[e2]⟩
  ·exact⟨_,List.mem_cons_of_mem _ (List.mem_singleton.2 rfl),_,h1,by rw[e1]⟩
theorem lostLK:lostB (lnF false 1 2) LK=false:=by
 rw[LK_is]
 unfold lostB
 simp[ln12_at 2 (by decide),ln12_at 1 (by decide)]
theorem lenLK {M:List Cc} (ho:M.Pairwise (fun x y=>x.1≠y.1)) (hm:∀y,y∈M↔y∈brL (lnF false 1 2) LK):M.length=2:=by
 have nM:M.Nodup:=ho.imp (fun {x y} q e=>q (by rw[e]))
 have nL:([((2,3),ctR 1 3),((1,3),ct7)]:List Cc).Nodup:=by
  rw[List.nodup_cons]
  refine⟨fun h=>?_,by simp⟩
  rw[List.mem_singleton] at h
  exact absurd (congrArg (fun z:Cc=>z.1.1) h) (by decide)
 have:=(List.perm_ext_iff_of_nodup nM nL).2 (fun y=>by rw[hm y,brLK y];simp)
 exact this.length_eq
theorem get_in (g:Nat) (M:List Cc) (w:World) (hg:GI 0 w g M) (hM:Ok17 M) (c s:Int) (hc:I64 c) (hs:I64 s) (a:Ct) (ha:((c,s),a)∈M) :
  Calls Tryz.prog 19 #[.pointer (some ⟨g,0,none⟩),.agg #[.int .i64 c,.int .i64 s]] w fun e w'=>∃sl' fp,e=.returned (a.val sl')/\Own w' w.heap.size sl' a.t fp/\Kp w w' Nul:=by
 obtain⟨mv,bo⟩:=hg.blk
 obtain⟨a',sa,bb,hlk,hinA,hax,hao,hasz,hacp,hcase⟩:=look_ct hg hM.gd hc hs bo
 rcases hcase with ⟨_,h⟩|⟨_,_,_,h2⟩
 ·have e:=once_eq hg.once h ha
  subst e
  refine get_own g c s mv (a'.val sa) bb a' w hlk (fun wq k=>?_)
  refine(gCopy_at a' sa (fun b=>0<=b) wq hax hasz hao (hinA.kp k (fun _ _ x=>x))).mono ?_
  rintro e w' ⟨sl',fp,rfl,h1,h2⟩
  rw[hacp] at h1 ⊢
  exact⟨sl',fp,rfl,h1,Kp.of_below h2⟩
 ·exact absurd ha (h2 a)
theorem at22 (x y:Int) (w:World):Calls Tryz.prog 18 #[.int .i64 x,.int .i64 y] w fun e w'=>e=.returned (.agg #[.int .i64 x,.int .i64 y])/\Kp w w' Nul:=by
 go_enter Tryz.func18,Tryz.ntmps18
 go_wp2_with fail
 refine bodyPost_ret (results_cell_row rfl _ _ w.heap.size 32 _ (0,0) _ rfl (heap_alloc_new _ _) Tryz.underlying32 rfl (by kernel_rfl)) rfl ?_
 exact⟨rfl,(Kp.refl w Nul).alloc _⟩
theorem ref22 (x y:Int) (w:World):Calls Tryz.prog 33 #[.agg #[.int .i64 x,.int .i64 y]] w fun e w'=>e=.returned ((ctR x y).t.hd.val (.slice none 0 0))/\Kp w w' Nul:=by
 go_enter Tryz.func33,Tryz.ntmps33
 go_wp2_with (first|(refine wpList_store_new rfl 48 (.tmp 2) (.tmp 5) rfl _ _ _ _ _ (by first|rfl|simp) rfl rfl rfl infoNode (Hd.one (ctR x y).t.hd rfl) ?_)|fail)
 (try simp only[Act.put])
 refine bodyPost_ret (results_cell_row rfl _ _ (w.heap.size+1) 48 _ (0,0) _ rfl (heap_alloc2_new _ _ _) Tryz.underlying48 rfl infoNode) rfl ⟨rfl,((Kp.refl _ _).alloc _).alloc _⟩
theorem nodes22 (x y:Int) (w:World):Calls Tryz.prog 35 #[(ctR x y).t.hd.val (.slice none 0 0)] w fun e w'=>∃b,e=.returned (.func (.func 67) #[] #[.pointer (some ⟨b,0,none⟩)])/\Kp w w' Nul:=by
 have HC:Hid (∀wq,Calls Tryz.prog 66 #[(ctR x y).t.hd.val (.slice none 0 0)] wq fun e w'=>∃sl',e=.returned ((cpy (ctR x y).t).hd.val sl')/\sl'.oneCell'=true/\Kp wq w' Nul):=fun wq=>(copy_at (ctR x y).t (.slice none 0 0) (fun _=>True) wq (by show (Nd.mk _ []).size<=_;rw[Nd.size,sizeL];decide) (by show (Nd.mk _ []).ok;rw[Nd.ok,okL];exact⟨by show (0:Nat)<_;decide,trivial⟩) (by show NdIn _ _ _ (Nd.mk _ []);rw[NdIn];exact⟨none,0,rfl,Nat.le_refl _,by decide,.inl ⟨rfl,.inl rfl⟩⟩)).mono (by
  rintro e w' ⟨sl',fp,rfl,h1,h2⟩
  exact⟨sl',rfl,h1.own.one,Kp.of_below h2⟩)
 generalize (cpy (ctR x y).t).hd=hh at *
 go_enter Tryz.func35,Tryz.ntmps35
 go_wp2_with fail
 refine(HC.out _).mono ?_
 rintro e w1 ⟨sl',rfl,ho,hk⟩
 go_wp2_with (first|(refine wpList_store_new rfl 48 (.tmp 3) (.tmp 5) rfl _ _ _ _ _ (by first|rfl|simp) rfl rfl rfl infoNode (Hd.one hh ho) ?_)|fail)
 go_ret
 exact⟨_,rfl,(((Kp.refl _ _).alloc _).trans hk).alloc _⟩
theorem cells22 (a b c d:Int) (w:World):Calls Tryz.prog 36 #[.agg #[.int .i64 a,.int .i64 b,.int .i64 c,.int .i64 d]] w fun e w'=>∃p,e=.returned (.func (.func 69) #[] #[.pointer (some ⟨p,0,none⟩)])/\Kp w w' Nul:=by
 go_enter Tryz.func36,Tryz.ntmps36
 go_wp2_with fail
 go_ret
 exact⟨_,rfl,(Kp.refl _ _).alloc _⟩
theorem eqIn_nil2 (w:World) (d f:Nat) (lb:Array Value):(Op.equalIn (d+1) 71 (.func (.func f) #[] lb) .nilFunc).run Tryz.prog w=.ok false w:=by
 simp[Op.equalIn,run_underlying Tryz.underlying71]
theorem eq_nil2 (f:Nat) (lb:Array Value) (w:World):(binOp .eql 71 (.func (.func f) #[] lb) .nilFunc).run Tryz.prog w=.ok (.bool false) w:=by
 simp only[binOp]
 simp[show Op.equal 71 (.func (.func f) #[] lb) .nilFunc=Op.equalIn (9999+1) 71 (.func (.func f) #[] lb) .nilFunc from rfl,eqIn_nil2 w 9999 f lb]
theorem eqIn_nilN (w:World) (d f:Nat) (lb:Array Value):(Op.equalIn (d+1) 85 (.func (.func f) #[] lb) .nilFunc).run Tryz.prog w=.ok false w:=by
 simp[Op.equalIn,run_underlying Tryz.underlying85]
theorem eq_nilN (f:Nat) (lb:Array Value) (w:World):(binOp .eql 85 (.func (.func f) #[] lb) .nilFunc).run Tryz.prog w=.ok (.bool false) w:=by
 simp only[binOp]
 simp[show Op.equal 85 (.func (.func f) #[] lb) .nilFunc=Op.equalIn (9999+1) 85 (.func (.func f) #[] lb) .nilFunc from rfl,eqIn_nilN w 9999 f lb]
theorem eqIn_nilA (w:World) (d f:Nat) (lb:Array Value):(Op.equalIn (d+1) 61 (.func (.func f) #[] lb) .nilFunc).run Tryz.prog w=.ok false w:=by
 simp[Op.equalIn,run_underlying Tryz.underlying61]
theorem eq_nilA (f:Nat) (lb:Array Value) (w:World):(binOp .eql 61 (.func (.func f) #[] lb) .nilFunc).run Tryz.prog w=.ok (.bool false) w:=by
 simp only[binOp]
 simp[show Op.equal 61 (.func (.func f) #[] lb) .nilFunc=Op.equalIn (9999+1) 61 (.func (.func f) #[] lb) .nilFunc from rfl,eqIn_nilA w 9999 f lb]
theorem eql_ad22 (c r:Int) (w:World):(binOp .eql 32 (.agg #[.int .i64 c,.int .i64 r]) (.agg #[.int .i64 c,.int .i64 r])).run Tryz.prog w=.ok (.bool true) w:=by simp[go_sem]
@[go_sem] theorem field_v (v0 v1 v2 v3 v4 v5 v6 v7 v8 v9 v10 v11 v12 v13 v14 v15 v16 v17 v18 v19 v20:Value) (w:World):(Instr.field 50 (.agg #[v0,v1,v2,v3,v4,v5,v6,v7,v8,v9,v10,v11,v12,v13,v14,v15,v16,v17,v18,v19,v20]) 1).run Tryz.prog w=.ok (.agg #[v1,v2,v3,v4,v5]) w:=by
 unfold Instr.field
 rw[Sem.run_bind,run_underlying Tryz.underlying50 w]
 simp[part,asAgg,isAgg,run_underlying Tryz.underlying43 w,Sem.run_bind]
theorem grid_sm {W:World} {F:Nat->Prop} {g:Nat} {M:List Cc} (h:GridIn W F g M) {i:Nat} (hs:Sm W g i):F i:=by
 obtain⟨hF,⟨hb',_⟩|⟨m,D,hb',hm',_⟩⟩:=h
 ·rcases hs with rfl|⟨e,_⟩
  ·exact hF
  ·rw[hb'] at e;simp at e
 ·rcases hs with rfl|⟨e,_⟩
  ·exact hF
  ·rw[hb'] at e
   have em:m=i:=by simpa using e
   rw[<- em];exact hm'
theorem put22 (w:World) (g:Nat) (c r:Int) (ct:Ct) (sl:Value) (L:List Cc) (wq:World) (hG:GI w.heap.size wq g L) (k:Kp w wq Nul) (hL:Ok17 L) (hgd:Gd ct) (hv:vC c r=true) (hin:NdIn wq (fun _=>True) sl ct.t) (hlen:L.length<4096) (U:VS w) :
  Calls Tryz.prog 11 #[.pointer (some ⟨g,0,none⟩),.agg #[.int .i64 c,.int .i64 r],ct.val sl] wq fun e w'=>e=.returned (.int .i64 0)/\GI w.heap.size w' g (putL L (c,r) ct)/\Ok17 (putL L (c,r) ct)/\Kp w w' Nul:=by
 refine(put_any (fun i=>w.heap.size<=i) g c r ct sl (fun _=>True) L wq hG (fun i hi=>Nat.le_trans k.size hi) hL hgd.ok hgd.x hgd.size hin (U.kp k)).mono ?_
 rintro e w' ⟨er,L',rfl,hg',hp,km⟩
 obtain⟨rfl,rfl⟩:=hp.put hv hgd.val hgd.k (.inl hlen)
 have ho:=hp.ok
 rw[hgd.cp] at hg' ho
 exact⟨rfl,hg',ho,k.trans' km.kp (fun i hi hs=>by have:=grid_sm hG hs;omega)⟩
theorem rows22 (w wq:World) (g:Nat) (hG:GI w.heap.size wq g LK) (k:Kp w wq Nul) (hL:Ok17 LK) (U:VS w) :
  Calls Tryz.prog 30 #[.pointer (some ⟨g,0,none⟩),.int .i64 1,.int .i64 2] wq fun e w'=>∃g2 M,e=.returned (.tuple #[.pointer (some ⟨g2,0,none⟩),.int .i64 0])/\M.length=2/\GI 0 w' g2 M/\Ok17 M/\((2,3),ctR 1 3)∈M/\((1,3),ct7)∈M/\Kp w w' Nul:=by
 have h0:GI 0 wq g LK:=GridIn.mono hG (fun _ _=>Nat.zero_le _)
 refine(rows_at 1 2 g LK wq h0 hL (U.kp k)).mono ?_
 rintro e w' ⟨v,rfl,h⟩
 cases h with
 | bad h _=>exact absurd ln12 h
 | off _ _ hl _=>rw[lostLK] at hl;cases hl
 | ok _ _ g2 M hb=>
  have hg0:GI 0 w' g2 M:=GridIn.mono hb.gi (fun _ _=>Nat.zero_le _)
  exact⟨g2,M,rfl,lenLK hg0.once hb.mem,hg0,hb.ok,(hb.mem _).2 ((brLK _).2 (.inl rfl)),(hb.mem _).2 ((brLK _).2 (.inr rfl)),k.trans hb.kp⟩
theorem known22 (w:World) (U:VS w):Calls Tryz.prog 8 #[] w fun e w'=>e=.returned (.bool true)/\Kp w w' Nul:=by
 obtain⟨g,hgw⟩:∃g,g=w.heap.size:=⟨_,rfl⟩
 have HNew:Hid (Calls Tryz.prog 32 #[] w fun e w'=>e=.returned (.pointer (some ⟨g,0,none⟩))/\GI w.heap.size w' g []/\Kp w w' Nul):=(new_at w).mono (by
  rintro e w' ⟨rfl,rfl⟩
  subst hgw
  exact⟨rfl,grid_new w _ (Nat.le_refl _),(Kp.refl w Nul).alloc _⟩)
 have HCell:Hid (∀x y w,Calls Tryz.prog 18 #[.int .i64 x,.int .i64 y] w fun e w'=>e=.returned (.agg #[.int .i64 x,.int .i64 y])/\Kp w w' Nul):=at22
 have HRef:Hid (∀x y w,Calls Tryz.prog 33 #[.agg #[.int .i64 x,.int .i64 y]] w fun e w'=>e=.returned ((ctR x y).t.hd.val (.slice none 0 0))/\Kp w w' Nul):=ref22
 have HPut1:Hid (∀wq,GI w.heap.size wq g []->Kp w wq Nul->Calls Tryz.prog 11 #[.pointer (some ⟨g,0,none⟩),.agg #[.int .i64 1,.int .i64 1],ct7.val (.slice none 0 0)] wq fun e w'=>e=.returned (.int .i64 0)/\(GI w.heap.size w' g (putL [] (1,1) ct7)/\Ok17 (putL [] (1,1) ct7))/\Kp w w' Nul):=fun wq hg k=>(put22 w g 1 1 ct7 _ [] wq hg k ⟨by simp,by simp,by simp⟩ gd7 (by decide) (zNd_in wq _) (by decide) U).mono fun e w' ⟨h1,h2,h3,h4⟩=>⟨h1,⟨h2,h3⟩,h4⟩
 have HPut2:Hid (∀wq,(GI w.heap.size wq g (putL [] (1,1) ct7)/\Ok17 (putL [] (1,1) ct7))->Kp w wq Nul->Calls Tryz.prog 11 #[.pointer (some ⟨g,0,none⟩),.agg #[.int .i64 2,.int .i64 1],(ctR 1 1).val (.slice none 0 0)] wq fun e w'=>e=.returned (.int .i64 0)/\(GI w.heap.size w' g LK/\Ok17 LK)/\Kp w w' Nul):=fun wq hg k=>(put22 w g 2 1 (ctR 1 1) _ (putL [] (1,1) ct7) wq hg.1 k hg.2 (gdR 1 1 (by decide)) (by decide) (by show NdIn _ _ _ (Nd.mk _ []);rw[NdIn];exact⟨none,0,rfl,Nat.le_refl _,by decide,.inl ⟨rfl,.inl rfl⟩⟩) (by unfold putL;decide) U).mono fun e w' ⟨h1,h2,h3,h4⟩=>⟨h1,⟨h2,h3⟩,h4⟩
 have HRows:Hid (∀wq,(GI w.heap.size wq g LK/\Ok17 LK)->Kp w wq Nul->Calls Tryz.prog 30 #[.pointer (some ⟨g,0,none⟩),.int .i64 1,.int .i64 2] wq fun e w'=>∃g2 M,e=.returned (.tuple #[.pointer (some ⟨g2,0,none⟩),.int .i64 0])/\M.length=2/\GI 0 w' g2 M/\Ok17 M/\((2,3),ctR 1 3)∈M/\((1,3),ct7)∈M/\Kp w w' Nul):=fun wq hg k=>rows22 w wq g hg.1 k hg.2 U
 have HKp:Hid (∀wq wz L,(GI w.heap.size wq g L/\Ok17 L)->Kp wq wz Nul->(GI w.heap.size wz g L/\Ok17 L)):=fun wq wz L h k=>⟨h.1.kp k,h.2⟩
 have HNd:Hid (∀w,Calls Tryz.prog 35 #[(ctR 1 1).t.hd.val (.slice none 0 0)] w fun e w'=>∃b,e=.returned (.func (.func 67) #[] #[.pointer (some ⟨b,0,none⟩)])/\Kp w w' Nul):=nodes22 1 1
 have HCs:Hid (∀a b c d w,Calls Tryz.prog 36 #[.agg #[.int .i64 a,.int .i64 b,.int .i64 c,.int .i64 d]] w fun e w'=>∃p,e=.returned (.func (.func 69) #[] #[.pointer (some ⟨p,0,none⟩)])/\Kp w w' Nul):=cells22
 clear hgw U
 go_enter Tryz.func8,Tryz.ntmps8
 go_wp2_with fail
 refine HNew.out.mono ?_
 rintro e w1 ⟨rfl,hg1,hk1⟩
 have HG1:Hid (GI w.heap.size w1 g []):=hg1
 have HK1:Hid (Kp w w1 Nul):=hk1
 clear hg1 hk1 HNew
 go_wp2_with fail
 refine(HCell.out _ _ _).mono ?_
 rintro e w2 ⟨rfl,hk2⟩
 have HG2:Hid (GI w.heap.size w2 g []):=HG1.out.kp hk2
 have HK2:Hid (Kp w w2 Nul):=HK1.out.trans hk2
 clear hk2 HG1 HK1
 go_wp2_with fail
 refine(HPut1.out _ HG2.out HK2.out).mono ?_
 rintro e w3 ⟨rfl,hg3,hk3⟩
 have HG3:Hid (GI w.heap.size w3 g (putL [] (1,1) ct7)/\Ok17 (putL [] (1,1) ct7)):=hg3
 have HK3:Hid (Kp w w3 Nul):=hk3
 clear hg3 hk3 HG2 HK2 HPut1
 go_wp2_with fail
 refine(HCell.out _ _ _).mono ?_
 rintro e w4 ⟨rfl,hk4⟩
 go_wp2_with fail
 refine(HCell.out _ _ _).mono ?_
 rintro e w5 ⟨rfl,hk5⟩
 go_wp2_with fail
 refine(HRef.out _ _ _).mono ?_
 rintro e w6 ⟨rfl,hk6⟩
 have HG6:Hid (GI w.heap.size w6 g (putL [] (1,1) ct7)/\Ok17 (putL [] (1,1) ct7)):=HKp.out _ _ _ HG3.out ((hk4.trans hk5).trans hk6)
 have HK6:Hid (Kp w w6 Nul):=HK3.out.trans ((hk4.trans hk5).trans hk6)
 clear hk4 hk5 hk6 HG3 HK3
 go_wp2_with fail
 refine(HPut2.out _ HG6.out HK6.out).mono ?_
 rintro e w7 ⟨rfl,hg7,hk7⟩
 have HG7:Hid (GI w.heap.size w7 g LK/\Ok17 LK):=hg7
 have HK7:Hid (Kp w w7 Nul):=hk7
 clear hg7 hk7 HG6 HK6 HPut2 HKp
 go_wp2_with fail
 refine(HRows.out _ HG7.out HK7.out).mono ?_
 rintro e w8 ⟨g2,M,rfl,hlen,hg8,hM,hm1,hm2,hk8⟩
 have HK8:Hid (Kp w w8 Nul):=hk8
 have HLen:Hid (∀wq,Kp w8 wq Nul->Calls Tryz.prog 26 #[.pointer (some ⟨g2,0,none⟩)] wq fun e w'=>e=.returned (.int .i64 2)/\w'=wq):=fun wq k=>by
  have h:=len_at wq _ g2 M (hg8.kp k)
  rw[hlen] at h
  exact h
 have HGetF:Hid (∀wq,Kp w8 wq Nul->Calls Tryz.prog 19 #[.pointer (some ⟨g2,0,none⟩),.agg #[.int .i64 2,.int .i64 3]] wq fun e w'=>∃sl',e=.returned ((ctR 1 3).val sl')/\sl'.oneCell'=true/\Kp wq w' Nul):=fun wq k=>(get_in g2 M wq (hg8.kp k) hM 2 3 (by unfold I64;omega) (by unfold I64;omega) _ hm1).mono fun e w' ⟨sl',fp,h1,h2,h3⟩=>⟨sl',h1,h2.own.one,h3⟩
 have HGetN:Hid (∀wq,Kp w8 wq Nul->Calls Tryz.prog 19 #[.pointer (some ⟨g2,0,none⟩),.agg #[.int .i64 1,.int .i64 3]] wq fun e w'=>∃sl',e=.returned (ct7.val sl')/\sl'.oneCell'=true/\Kp wq w' Nul):=fun wq k=>(get_in g2 M wq (hg8.kp k) hM 1 3 (by unfold I64;omega) (by unfold I64;omega) _ hm2).mono fun e w' ⟨sl',fp,h1,h2,h3⟩=>⟨sl',h1,h2.own.one,h3⟩
 have HAll:Hid (∀wq,Calls Tryz.prog 34 #[.pointer (some ⟨g2,0,none⟩)] wq fun e w'=>∃x0 x1,e=.returned (.func (.func 97) #[] #[.pointer (some ⟨x0,0,none⟩),.pointer (some ⟨x1,0,none⟩)])/\Kp wq w' Nul):=fun wq=>(all_at g2 wq).mono fun e w' ⟨x0,x1,h1,_,_,h4⟩=>⟨x0,x1,h1,h4⟩
 clear hlen hg8 hM hm1 hm2 hk8 HG7 HK7 HRows
 go_wp2_with fail
 refine(HLen.out _ (Kp.refl _ _)).mono ?_
 rintro e w9 ⟨rfl,hw9⟩
 subst hw9
 go_wp2_with fail
 refine(HAll.out _).mono ?_
 rintro e w10 ⟨x0,x1,rfl,hk10⟩
 have K10:Hid (Kp w9 w10 Nul):=hk10
 clear hk10 HAll
 have hn1:=eq_nil2 97
 go_wp2_with fail
 refine(HCell.out _ _ _).mono ?_
 rintro e w11 ⟨rfl,hk11⟩
 go_wp2_with fail
 refine(HRef.out _ _ _).mono ?_
 rintro e w12 ⟨rfl,hk12⟩
 have K12:Hid (Kp w9 w12 Nul):=(K10.out.trans hk11).trans hk12
 clear hk11 hk12 K10 HRef
 go_wp2_with fail
 refine(HNd.out _).mono ?_
 rintro e w13 ⟨b13,rfl,hk13⟩
 have K13:Hid (Kp w9 w13 Nul):=K12.out.trans hk13
 clear hk13 K12 HNd
 have hn2:=eq_nilN 67
 go_wp2_with fail
 refine(HCell.out _ _ _).mono ?_
 rintro e w14 ⟨rfl,hk14⟩
 go_wp2_with fail
 refine(HCell.out _ _ _).mono ?_
 rintro e w15 ⟨rfl,hk15⟩
 have K15:Hid (Kp w9 w15 Nul):=(K13.out.trans hk14).trans hk15
 clear hk14 hk15 K13
 go_wp2_with fail
 refine(HCs.out _ _ _ _ _).mono ?_
 rintro e w16 ⟨b16,rfl,hk16⟩
 have K16:Hid (Kp w9 w16 Nul):=K15.out.trans hk16
 clear hk16 K15 HCs
 have hn3:=eq_nilA 69
 go_wp2_with fail
 refine(HCell.out _ _ _).mono ?_
 rintro e w17 ⟨rfl,hk17⟩
 have K17:Hid (Kp w9 w17 Nul):=K16.out.trans hk17
 clear hk17 K16
 go_wp2_with fail
 refine(HGetF.out _ K17.out).mono ?_
 rintro e w18 ⟨sl,rfl,hone,hk18⟩
 have K18:Hid (Kp w9 w18 Nul):=K17.out.trans hk18
 have HONE:Hid (sl.oneCell'=true):=hone
 clear hk18 hone K17 HGetF
 obtain⟨W19,hW19⟩:∃W19,w18.alloc (.cells ((ctR 1 3).cells sl).toArray 50)=W19:=⟨_,rfl⟩
 have hC:Blk W19 w18.heap.size ((ctR 1 3).cells sl) 50:=by rw[<- hW19];exact Blk.new w18 _ _
 have k19:Kp w18 W19 Nul:=by rw[<- hW19];exact(Kp.refl w18 Nul).alloc _
 have HS:Hid (∀wq,Kp W19 wq Nul->(wq.cell? ⟨w18.heap.size,0,none⟩=some (.int .i64 2)/\wq.cell? ⟨w18.heap.size,12,none⟩=some (.int .i64 1)/\wq.cell? ⟨w18.heap.size,13,none⟩=some (.int .i64 3))):=fun wq k=>⟨(hC.kp k (fun x=>x)).cell rfl,(hC.kp k (fun x=>x)).cell rfl,(hC.kp k (fun x=>x)).cell rfl⟩
 have HCell19:Hid (∀wq,Kp W19 wq Nul->Calls Tryz.prog 18 #[.int .i64 1,.int .i64 3] wq fun e w'=>e=.returned (.agg #[.int .i64 1,.int .i64 3])/\Kp W19 w' Nul):=fun wq k=>(HCell.out 1 3 wq).mono fun e w' ⟨h1,h2⟩=>⟨h1,k.trans h2⟩
 have HGet19:Hid (∀wq,Kp W19 wq Nul->Calls Tryz.prog 19 #[.pointer (some ⟨g2,0,none⟩),.agg #[.int .i64 1,.int .i64 3]] wq fun e w'=>∃sl',e=.returned (.agg #[.int .i64 1,.int .i64 1,.float .f64 4619567317775286272,.string ⟨#[]⟩,.bool false,.int .i64 0,.int .i64 0,.int .i64 0,.float .f64 0,.string ⟨#[]⟩,.bool false,.int .i64 0,.int .i64 0,.int .i64 0,.bool false,.bool false,.int .i64 0,.int .i64 0,.bool false,.bool false,sl'])/\sl'.oneCell'=true/\Kp W19 w' Nul):=fun wq k=>(HGetN.out wq ((K18.out.trans k19).trans k)).mono fun e w' ⟨sl',h1,h2,h3⟩=>⟨sl',h1,h2,k.trans h3⟩
 have HK19:Hid (Kp w W19 Nul):=(HK8.out.trans K18.out).trans k19
 have hk0:Kp W19 W19.drew Nul:=(Kp.refl W19 Nul).drew
 have he:=eql_ad22 1 3
 have h7:=seven
 clear hC k19 K18 HK8 HCell HGetN HLen
 go_wp2_with (refine wpList_store_new rfl 50 (.tmp 6) (.tmp 63) rfl _ _ _ _ _ (by simp) rfl rfl rfl infoContent (Ct.one (ctR 1 3) HONE.out) ?_)
 (try simp only[Act.put])
 generalize hWz:w18.alloc (.cells _ 50)=Wz
 have hz:Wz=W19:=hWz.symm.trans hW19
 clear hWz hW19
 subst hz
 go_region_held3 (fun w'=>w'.cell? ⟨w18.heap.size,0,none⟩=some (.int .i64 2)/\w'.cell? ⟨w18.heap.size,12,none⟩=some (.int .i64 1)/\w'.cell? ⟨w18.heap.size,13,none⟩=some (.int .i64 3))
  (exact HS.out _ (by assumption))
  (first
   | (go_at_call 18;refine(HCell19.out _ (by assumption)).mono ?_;rintro e wz ⟨rfl,hkz⟩)
   | (go_at_call 19;refine(HGet19.out _ (by assumption)).mono ?_;rintro e wz ⟨slz,rfl,_,hkz⟩))
 all_goals
  go_wp2_with fail
  go_ret
  exact⟨rfl,HK19.out.trans (by assumption)⟩
end Go.Proofs.YtecjfnkakodebaaGreatDoor
namespace Go.Proofs.YtecjfnkakodebaaGreatDoor
open Go.RowKit Go.Shelf
attribute [local go_sem] Oper.semAt_some
end Go.Proofs.YtecjfnkakodebaaGreatDoor
namespace Go.Proofs.YtecjfnkakodebaaGreatDoor
open Go.RowKit Go.Shelf
attribute [local go_sem] Oper.semAt_some
theorem res_none {fn:Func} (h:fn.results=#[]) (tmps:Array Value) (w:World):(results fn tmps).run Tryz.prog w=.ok (.tuple #[]) w:=by
 simp[results,h]
end Go.Proofs.YtecjfnkakodebaaGreatDoor
namespace Go.Proofs.YtecjfnkakodebaaGreatDoor
open Go.RowKit Go.Shelf
attribute [local go_sem] Oper.semAt_some
end Go.Proofs.YtecjfnkakodebaaGreatDoor
namespace Go.Proofs.YtecjfnkakodebaaGreatDoor
open Go.RowKit Go.Maps
theorem pick22 (c m:Int) (hc:I64 c) (h1:1<=m) (w:World):Calls Tryz.prog 28 #[.int .i64 c,.int .i64 m] w fun e w'=>e=.returned (.int .i64 (pkf c m))/\w'=w:=by
 have HC:Hid (-9223372036854775808<=c/\c<=9223372036854775807):=by unfold I64 at hc;exact hc
 have hm0:m≠0:=by omega
 have hv:=(pkf_val c m h1).1
 generalize pkf c m=p at *
 clear hc
 by_cases h:c<0
 ·rw[if_pos h] at hv
  have hX:wrap64 (-wrap64 (c+1))=-(c+1):=by have:=HC.out;unfold wrap64;omega
  have hY:(-(c+1)).tmod m=(-(c+1))%m:=Int.tmod_eq_emod_of_nonneg (by omega)
  have HX:Hid (wrap64 (-wrap64 (c+1))=-(c+1)):=hX
  have HE:Hid ((-(c+1)).tmod m=(p:Int)):=by show _=_;rw[hY,hv]
  clear hX hY hv
  go_enter Tryz.func28,Tryz.ntmps28
  go_wp2
  go_ret
  refine⟨rInt ?_,rfl⟩
  first
  | exact HE.out
  | (rw[HX.out];exact HE.out)
 ·rw[if_neg h] at hv
  have hY:c.tmod m=c%m:=Int.tmod_eq_emod_of_nonneg (by omega)
  have HE:Hid (c.tmod m=(p:Int)):=by show _=_;rw[hY,hv]
  have HE2:Hid (c%m=(p:Int)):=hv.symm
  clear hY hv
  go_enter Tryz.func28,Tryz.ntmps28
  go_wp2
  go_ret
  refine⟨rInt ?_,rfl⟩
  first
  | exact HE.out
  | exact HE2.out
theorem all22 (g:Nat) (w:World):Calls Tryz.prog 25 #[.pointer (some ⟨g,0,none⟩)] w fun e w'=>∃x0 x1,e=.returned (.func (.func 97) #[] #[.pointer (some ⟨x0,0,none⟩),.pointer (some ⟨x1,0,none⟩)])/\Blk w' x0 [.pointer (some ⟨g,0,none⟩)] 24/\Blk w' x1 [.int .i64 1,.int .i64 1,.int .i64 256,.int .i64 4096] 34/\Kp w w' Nul:=by
 have H:=all_at g w
 have HA:Hid (Calls Tryz.prog 34 #[.pointer (some ⟨g,0,none⟩)] w fun e w'=>∃x0 x1,e=.returned (.func (.func 97) #[] #[.pointer (some ⟨x0,0,none⟩),.pointer (some ⟨x1,0,none⟩)])/\Blk w' x0 [.pointer (some ⟨g,0,none⟩)] 24/\Blk w' x1 [.int .i64 1,.int .i64 1,.int .i64 256,.int .i64 4096] 34/\Kp w w' Nul):=H
 clear H
 go_enter Tryz.func25,Tryz.ntmps25
 go_wp2_with fail
 refine HA.out.mono ?_
 rintro e w1 ⟨x0,x1,rfl,h⟩
 have HH:Hid (Blk w1 x0 [.pointer (some ⟨g,0,none⟩)] 24/\Blk w1 x1 [.int .i64 1,.int .i64 1,.int .i64 256,.int .i64 4096] 34/\Kp w w1 Nul):=h
 clear h HA
 have hn1:=eq_nil2 97
 go_wp2_with fail
 go_ret
 exact⟨_,_,rfl,HH.out⟩
theorem zeroN_size {t:Nd} (h:zeroN t=true):t.size=1:=by
 obtain⟨hd,ts⟩:=t
 unfold zeroN zNd at h
 rw[tsame] at h
 cases ts with
 | nil=>rw[Nd.size,sizeL]
 | cons a r=>simp[lsame] at h
theorem gv_size {c:Ct} (h:gv c=true):c.t.size<=1048576:=by
 unfold gv validC at h
 simp only[Bool.or_eq_true,Bool.and_eq_true] at h
 rcases h with (⟨_,_,h⟩|⟨_,_,h⟩)|⟨_,_,h⟩
 ·rw[zeroN_size h];decide
 ·rw[zeroN_size h];decide
 ·have e:chk c.t=0:=by simpa using h
  unfold chk at e
  by_cases q:256<c.t.size
  ·rw[if_pos q] at e;omega
  ·omega
theorem put_all (G:Nat->Prop) (g:Nat) (c r:Int) (ct:Ct) (sl:Value) (F:Nat->Prop) (L:List Cc) (w:World) (hG:GridIn w G g L) (hnew:∀i,w.heap.size<=i->G i) (hL:Ok17 L) (hok:ct.t.ok) (hx:ct.v.x<18446744073709551616) (hin:NdIn w F sl ct.t) (U:VS w) :
  Calls Tryz.prog 11 #[.pointer (some ⟨g,0,none⟩),.agg #[.int .i64 c,.int .i64 r],ct.val sl] w fun e w'=>∃er L',e=.returned (.int .i64 er)/\GridIn w' G g L'/\PutR L c r ct er L'/\Km g w w':=by
 cases hV:gv ct with
 | true=>exact put_any G g c r ct sl F L w hG hnew hL hok hx (gv_size hV) hin U
 | false=>
  have h:GI 0 w g L:=GridIn.mono hG (fun _ _=>Nat.zero_le _)
  obtain⟨mv,bg⟩:=h.blk
  refine(put_no g c r ct sl false w (fun e=>by cases e) (fun wq k=>by have:=gv_at ct sl F wq hok (hin.kp k (fun _ _ x=>x)) (U.kp k);rw[hV] at this;exact this)).mono ?_
  rintro e w' ⟨rfl,k⟩
  exact⟨_,L,rfl,hG.kp k,⟨hL,fun _ h2=>(by rw[hV] at h2;cases h2),fun _ h2=>(by rw[hV] at h2;cases h2)⟩,Km.of_nul k bg.lt⟩
theorem made22 (vl:Value) (xl:List (Cc×Value)) (w:World) (hl:PutsIn w vl xl) (hv:VS w) :
  Calls Tryz.prog 13 #[vl] w fun e w'=>∃g L,e=.returned (.pointer (some ⟨g,0,none⟩))/\GI w.heap.size w' g L/\Ok17 L/\Kp w w' Nul:=by
 have HNew:Hid (∀w,Calls Tryz.prog 32 #[] w fun e w'=>∃g,e=.returned (.pointer (some ⟨g,0,none⟩))/\GI w.heap.size w' g []/\Kp w w' Nul):=fun w=>(new_at w).mono (by
  rintro e w' ⟨rfl,rfl⟩
  exact⟨_,rfl,grid_new w _ (Nat.le_refl _),(Kp.refl w Nul).alloc _⟩)
 have HV:Hid (VS w):=hv
 obtain⟨la,lc,rfl,hla⟩:=hl.sl
 have HLA:Hid (0<xl.length->∃b o,la=some ⟨b,o,none⟩/\∀(i:Nat) y,xl[i]? = some y->w.rangeAt b (o+i*23) (ptCells y.1 y.2)):=hla
 have HLC:Hid (∀y∈xl,Cn w y.1.2 y.2):=hl.cn
 have hLL:xl.length<=9223372036854775807:=by have:=hl.len;unfold maxLen at this;omega
 generalize hnl:xl.length=nl at *
 have HNL:Hid (xl.length=nl/\nl<=9223372036854775807):=⟨hnl,hLL⟩
 clear hl hv hla hnl hLL
 go_enter Tryz.func13,Tryz.ntmps13
 go_wp2_with fail
 refine(HNew.out w).mono ?_
 rintro e w1 ⟨g,rfl,hg1,hk1⟩
 have HG1:Hid (GI w.heap.size w1 g []):=hg1
 have HK1:Hid (Kp w w1 Nul):=hk1
 clear hg1 hk1 HNew
 go_wp2_with fail
 go_loopw[4] (fun i wr=>∃(q:Nat) (La:List Cc),q<=nl/\i=.int .i64 q/\GI w.heap.size wr g La/\Ok17 La/\Kp w wr Nul) (fun i _=>nl-(RowKit.intOf i).toNat)
 case atStart=>exact⟨0,[],Nat.zero_le _,rfl,HG1.out,Ok17.nil,HK1.out⟩
 case round=>
  clear HG1 HK1
  obtain⟨q,La,hq,rfl,hgr,hor,hkr⟩:=hrel
  have HGR:Hid (GI w.heap.size wr g La):=hgr
  have HOR:Hid (Ok17 La):=hor
  have HKR:Hid (Kp w wr Nul):=hkr
  clear hgr hor hkr
  by_cases hlt:q<nl
  ·have hqt:q<xl.length:=by rw[HNL.out.1];exact hlt
   obtain⟨b,o,rfl,hra⟩:=HLA.out (by have:=HNL.out.1;omega)
   obtain⟨⟨⟨⟨c,s⟩,a⟩,sa⟩,hys⟩:∃y,xl[q]=y:=⟨_,rfl⟩
   have hget:xl[q]? = some (((c,s),a),sa):=by rw[List.getElem?_eq_getElem hqt,hys]
   have hr:=hra q _ hget
   have hcn:=HLC.out _ (List.mem_of_getElem? hget)
   have HCN:Hid (Cn w a sa):=hcn
   have HRG:Hid (∀wq,Kp w wq Nul->wq.rangeAt b (o+q*23) [.int .i64 c,.int .i64 s]/\wq.rangeAt b (o+q*23+2) (a.cells sa)):=fun wq k=>pt_parts (rangeAt_kp hr k (fun x=>x))
   have hq0:(0:Int)<=(q:Int):=by omega
   have hqn:(q:Int)<(nl:Int):=by omega
   have hkb:(q:Int)+1<=9223372036854775807:=by have:=HNL.out.2;omega
   have HPut:Hid (∀wq,Kp wr wq Nul->Calls Tryz.prog 11 #[.pointer (some ⟨g,0,none⟩),.agg #[.int .i64 c,.int .i64 s],.agg (a.cells sa).toArray] wq fun e w'=>∃er L',e=.returned (.int .i64 er)/\GI w.heap.size w' g L'/\Ok17 L'/\Kp w w' Nul):=fun wq k=>by
    have hk:=HKR.out.trans k
    have hgq:=HGR.out.kp k
    refine(put_all (fun i=>w.heap.size<=i) g c s a sa (fun _=>True) La wq hgq (fun i hi=>Nat.le_trans hk.size hi) HOR.out HCN.out.ok HCN.out.vx (HCN.out.inn.kp hk (fun _ _ x=>x)) (HV.out.kp hk)).mono ?_
    rintro e w' ⟨er,L',rfl,h1,h2,h3⟩
    exact⟨er,L',rfl,h1,h2.ok,hk.trans' h3.kp (fun i hi hs=>by have:=grid_sm hgq hs;omega)⟩
   clear hqt hys hget hr hra hcn
   go_wp2_with fail
   refine wp_region_noPanic ?_
   refine wp_region_hel (fun w':World=>Kp w w' Nul) (by kernel_rfl) (HKR.out.drew) (fun hHeld=>?_)
   refine wpH_takes (i:=0) (v:=?_) (some 16) rfl rfl (by kernel_rfl) (fun _ _ _ h=>h) (Or.inl ⟨by rfl,?_⟩) hHeld ?_
   rotate_left
   ·intro w' hSw;clear hSw;go_simp;try with_reducible rfl
   simp only[Act.put,Sz0,Sz1,Sz2]
   refine wpH_takes (i:=1) (v:=?_) (some 17) rfl rfl (by kernel_rfl) (fun _ _ _ h=>h) (Or.inl ⟨by rfl,?_⟩) hHeld ?_
   rotate_left
   ·intro w' hSw;clear hSw;go_simp;try with_reducible rfl
   simp only[Act.put,Sz0,Sz1,Sz2]
   refine wpH_takes (i:=2) (v:=?_) (some 18) rfl rfl (by kernel_rfl) (fun _ _ _ h=>h) (Or.inl ⟨by rfl,?_⟩) hHeld ?_
   rotate_left
   ·intro w' hSw;clear hSw;go_simp;try with_reducible rfl
   simp only[Act.put,Sz0,Sz1,Sz2]
   refine wpH_takes (i:=3) (v:=?_) (some 19) rfl rfl (by kernel_rfl) (fun _ _ _ h=>h) (Or.inl ⟨by rfl,?_⟩) hHeld ?_
   rotate_left
   ·intro w' hSw;clear hSw;go_simp;try with_reducible rfl
   simp only[Act.put,Sz0,Sz1,Sz2]
   refine wpH_takes (i:=4) (v:=?_) (some 20) rfl rfl (by kernel_rfl) (fun _ _ _ h=>h) (Or.inl ⟨by rfl,?_⟩) hHeld ?_
   rotate_left
   ·intro w' hSw;clear hSw;go_simp;try with_reducible rfl
   simp only[Act.put,Sz0,Sz1,Sz2]
   refine wpH_takes (i:=5) (v:=.agg ([.int .i64 c,.int .i64 s]).toArray) (some 21) rfl rfl (by kernel_rfl) (fun _ _ _ h=>h) (Or.inl ⟨by rfl,fun w' hSw=>exec_load_row 32 (.tmp 20) rfl b (o+q*23) rfl ([.int .i64 c,.int .i64 s]) _ (HRG.out w' hSw).1 Tryz.underlying32 rfl infoAddr2⟩) hHeld ?_
   simp only[Act.put,Sz0,Sz1,Sz2]
   refine wpH_takes (i:=6) (v:=?_) (some 22) rfl rfl (by kernel_rfl) (fun _ _ _ h=>h) (Or.inl ⟨by rfl,?_⟩) hHeld ?_
   rotate_left
   ·intro w' hSw;clear hSw;go_simp;try with_reducible rfl
   simp only[Act.put,Sz0,Sz1,Sz2]
   refine wpH_takes (i:=7) (v:=?_) (some 23) rfl rfl (by kernel_rfl) (fun _ _ _ h=>h) (Or.inl ⟨by rfl,?_⟩) hHeld ?_
   rotate_left
   ·intro w' hSw;clear hSw;go_simp;try with_reducible rfl
   simp only[Act.put,Sz0,Sz1,Sz2]
   refine wpH_takes (i:=8) (v:=?_) (some 24) rfl rfl (by kernel_rfl) (fun _ _ _ h=>h) (Or.inl ⟨by rfl,?_⟩) hHeld ?_
   rotate_left
   ·intro w' hSw;clear hSw;go_simp;try with_reducible rfl
   simp only[Act.put,Sz0,Sz1,Sz2]
   refine wpH_takes (i:=9) (v:=?_) (some 25) rfl rfl (by kernel_rfl) (fun _ _ _ h=>h) (Or.inl ⟨by rfl,?_⟩) hHeld ?_
   rotate_left
   ·intro w' hSw;clear hSw;go_simp;try with_reducible rfl
   simp only[Act.put,Sz0,Sz1,Sz2]
   refine wpH_takes (i:=10) (v:=.agg (a.cells sa).toArray) (some 26) rfl rfl (by kernel_rfl) (fun _ _ _ h=>h) (Or.inl ⟨by rfl,fun w' hSw=>exec_load_row 50 (.tmp 25) rfl b (o+q*23+2) rfl (a.cells sa) _ (HRG.out w' hSw).2 Tryz.underlying50 rfl infoContent⟩) hHeld ?_
   simp only[Act.put,Sz0,Sz1,Sz2]
   refine wpH_step (i:=11) (by kernel_rfl) rfl rfl (fun K hK=>?_)
   go_simp
   refine(HPut.out _ ((Kp.refl _ _).drew)).mono ?_
   rintro e w6 ⟨er,L6,rfl,hg6,ho6,hk6⟩
   have HG6:Hid (GI w.heap.size w6 g L6/\Ok17 L6/\Kp w w6 Nul):=⟨hg6,ho6,hk6⟩
   refine hK.out _ _ hk6 (fun _=>?_)
   clear hK K hg6 ho6 hk6 hHeld HPut HRG HKR HGR HOR
   refine wpAnyH_done (by kernel_rfl) ?_ _
   refine NoPanic.normal ?_
   go_wp2_with fail
   go_roundw
   case rel=>exact⟨q+1,L6,by omega,by go_num,HG6.out⟩
   case measure=>simp only[RowKit.intOf];omega
  ·have hqe:q=nl:=by omega
   subst hqe
   have hqn:¬((q:Int)<(q:Int)):=by omega
   go_wp2_with fail
   go_ret
   exact⟨g,rfl,La,HGR.out,HOR.out,HKR.out⟩
end Go.Proofs.YtecjfnkakodebaaGreatDoor
namespace Go.Proofs.YtecjfnkakodebaaGreatDoor
open Go.RowKit
theorem PutsIn.kp {w w':World} {v:Value} {xs:List (Cc×Value)} (h:PutsIn w v xs) (k:Kp w w' Nul):PutsIn w' v xs:=by
 obtain⟨⟨a,c,e,hs⟩,hl,hc⟩:=h
 refine⟨⟨a,c,e,fun h0=>?_⟩,hl,fun y hy=>⟨(hc y hy).ok,(hc y hy).vx,(hc y hy).inn.kp k (fun _ _ x=>x)⟩⟩
 obtain⟨b,o,e1,h1⟩:=hs h0
 exact⟨b,o,e1,fun i y hy=>rangeAt_kp (h1 i y hy) k (fun x=>x)⟩
structure MlP where
 p5:Nat
 p8:Nat
 p10:Nat
 p11:Nat
 p12:Nat
 p14:Nat
section
variable {f:Fate} {cols:Bool} {k p:Int} {w:World} {B:Nat} {q:MlP} {g2:Nat} {K M:List Cc} {j:Nat} {Z:Nat->Prop} {W W':World}
end
end Go.Proofs.YtecjfnkakodebaaGreatDoor
namespace Go.Proofs.YtecjfnkakodebaaGreatDoor
open Go.RowKit Go.Maps Go.Sort Go.Lib Go.Shelf
attribute [local go_sem] Oper.semAt_some
end Go.Proofs.YtecjfnkakodebaaGreatDoor
namespace Go.Proofs.YtecjfnkakodebaaGreatDoor
open Go.RowKit Go.Maps Go.Sort Go.Lib Go.Shelf
attribute [local go_sem] Oper.semAt_some
theorem in1_seq3 (g x0 x1 A:Nat) (L K:List Cc) (w:World) (S:Nat->Prop) (hg:GI 0 w g L) (hF:GridIn w (fun b=>b<A) g L) (gL:∀x∈L,Gd x.2) (hv:∀x∈L,vC x.1.1 x.1.2=true) (lL:L.length<=4096)
  (hK:Strict (K.map (·.1))) (hKL:∀x,x∈K↔x∈L) (hA:A<=w.heap.size) (hS:∀i,S i->A<=i) (b0:Blk w x0 [.pointer (some ⟨g,0,none⟩)] 24) (b1:Blk w x1 [.int .i64 1,.int .i64 1,.int .i64 256,.int .i64 4096] 34) :
  SeqOw3 Tryz.prog 97 #[.pointer (some ⟨x0,0,none⟩),.pointer (some ⟨x1,0,none⟩)] encQ wtQ (TellQ w K) K.length S w:=by
 intro J Jx Z W hkw hsz hJ _ hJz hY hj0
 have c0:W.cell? ⟨x0,0,none⟩=some (.pointer (some ⟨g,0,none⟩)):=(b0.kp hkw (fun x=>x)).cell rfl
 have d0:W.cell? ⟨x1,0,none⟩=some (.int .i64 1):=(b1.kp hkw (fun x=>x)).cell rfl
 have d1:W.cell? ⟨x1,1,none⟩=some (.int .i64 1):=(b1.kp hkw (fun x=>x)).cell rfl
 have d2:W.cell? ⟨x1,2,none⟩=some (.int .i64 256):=(b1.kp hkw (fun x=>x)).cell rfl
 have d3:W.cell? ⟨x1,3,none⟩=some (.int .i64 4096):=(b1.kp hkw (fun x=>x)).cell rfl
 have HWi:Hid (Calls Tryz.prog 98 #[.pointer (some ⟨g,0,none⟩),.agg #[.int .i64 1,.int .i64 1,.int .i64 256,.int .i64 4096]] W fun e w'=>∃b ys,e=.returned (.slice (some ⟨b,0,none⟩) ys.length ys.length)/\WiR W w' (fun b=>b<A) L b ys):=within_at g _ L W (hg.kp hkw) (hF.kp hkw) gL hv lL
 have HSZ:Hid (w.heap.size+2<=W.heap.size):=hsz
 have HJ:Hid (∀k Z W W',J k Z W->Kp W W' Nul->J k Z W'):=hJ
 have HJZ:Hid (∀k Z W,J k Z W->(∀i,Z i->i<W.heap.size)/\∀i,i<w.heap.size->Z i->S i):=hJz
 have HY:Hid (∀m k x Z W1,k<K.length->J k Z W1->TellQ w K k x Z W1->YieldAt Fence.wide m Tryz.prog (w.heap.size+1) (encQ x) W1 fun e W'=>(e=.returned (.bool true)/\(∃Z',J (k+1) Z' W'/\More Z Z' W1)/\Kp W1 W' (fun i=>(Z i∨wtQ x i)∨i=w.heap.size+1))∨(e=.returned (.bool false)/\Jx W')):=hY
 have HJ0:Hid (J 0 Z W):=hj0
 have HGd:Hid (∀x∈L,Gd x.2):=gL
 have HA:Hid (A<=w.heap.size):=hA
 have HS:Hid (∀i,S i->A<=i):=hS
 have HKK:Hid (∀ys:List (Cc×Value),Strict (ys.map (·.1.1))->(∀x,x∈ys.map (·.1)↔x∈L)->ys.map (·.1)=K):=fun ys h1 h2=>same_in_order (by rw[List.map_map];exact h1) hK (fun x=>(h2 x).trans (hKL x).symm)
 have HLK:Hid (K.length<=4096):=by
  have hnd:(K.map (·.1)).Nodup:=strict_nodup hK
  have:=nodup_le _ (L.map (·.1)) hnd (fun x hx=>by
   obtain⟨y,hy,rfl⟩:=List.mem_map.1 hx
   exact List.mem_map.2 ⟨y,(hKL y).1 hy,rfl⟩)
  rw[List.length_map,List.length_map] at this
  show _<=_;omega
 clear hkw hsz hJ hJz hY hj0 hg hF gL hv lL hK hKL hA hS b0 b1
 simp only[List.append_toArray,List.cons_append,List.nil_append]
 refine(callsIn_wide (n:=8)).1 ?_
 refine callsIn_of_wp Tryz.func97 rfl trivial ?_ rfl
 simp only[Tryz.ntmps97,List.size_toArray,List.length_cons,List.length_nil,Nat.reduceAdd,Nat.reduceSub,Array.replicate_succ,Array.replicate_zero,List.push_toArray,List.append_toArray,List.nil_append,List.cons_append]
 gi_wp2_with (fail)
 refine⟨trivial,(callsIn_wide.2 HWi.out).mono ?_⟩
 rintro e w2 ⟨b,ys,rfl,hwi⟩
 have HW2:Hid (WiR W w2 (fun b=>b<A) L b ys):=hwi
 have HYK:Hid (ys.map (·.1)=K):=HKK.out ys hwi.strict hwi.mem
 have hlen:ys.length=K.length:=by rw[<- HYK.out,List.length_map]
 clear hwi c0 d0 d1 d2 d3 HKK
 rw[hlen]
 generalize hn:K.length=n at *
 have HLEN:Hid (ys.length=n):=hlen
 have HN:Hid (K.length=n):=hn
 clear hn hlen
 gi_wp2_with (fail)
 gi_loopw [12] (fun i wr=>∃(q:Nat) (Z:Nat->Prop),q<=n/\i=.int .i64 q/\J q Z wr/\InR W A b ys Z wr) (fun i _=>n-(RowKit.intOf i).toNat)
 case atStart=>
  refine⟨0,Z,Nat.zero_le _,rfl,HJ.out _ _ _ _ HJ0.out HW2.out.kp,?_⟩
  exact⟨fun h=>by have h1:=(HJZ.out _ _ _ HJ0.out).1 b h;have h2:=HW2.out.low;omega,HW2.out.rng,HW2.out.tree,HW2.out.kp.size⟩
 case round=>
  obtain⟨q,Zq,hq,rfl,hjq,hin⟩:=hrel
  have HJQ:Hid (J q Zq wr):=hjq
  have HIN:Hid (InR W A b ys Zq wr):=hin
  clear hjq hin
  by_cases hlt:q<n
  ·have hqt:q<ys.length:=by rw[HLEN.out];exact hlt
   obtain⟨⟨⟨⟨c,s⟩,a⟩,sa⟩,hys⟩:∃y,ys[q]=y:=⟨_,rfl⟩
   have hget:ys[q]? = some (((c,s),a),sa):=by rw[List.getElem?_eq_getElem hqt,hys]
   have HR:Hid (wr.rangeAt b (q*23) (ptCells ((c,s),a) sa)):=HIN.out.rng q _ hget
   have htree:NdIn wr (fun i=>i<A) sa a.t:=HIN.out.tree _ (List.mem_of_getElem? hget)
   have O1:Hid (sa.oneCell'=true):=htree.one
   have hKq:K[q]? = some ((c,s),a):=by rw[<- HYK.out,List.getElem?_map,hget];rfl
   have HKQ:Hid (K[q]? = some ((c,s),a)):=hKq
   have hgd:Gd a:=HGd.out _ ((HW2.out.mem _).1 (List.mem_map.2 ⟨_,List.mem_of_getElem? hget,rfl⟩))
   have hbl:b<wr.heap.size:=rangeAt_lt HR.out
   have HBL:Hid (b<wr.heap.size):=hbl
   have B5:Blk (wr.alloc (.cells (ptCells ((c,s),a) sa).toArray 52)) wr.heap.size (ptCells ((c,s),a) sa) 52:=Blk.new wr _ _
   have HAt:Hid (∀wq,Kp (wr.alloc (.cells (ptCells ((c,s),a) sa).toArray 52)) wq Nul->wq.rangeAt wr.heap.size 0 [.int .i64 c,.int .i64 s]):=fun wq k j v hj=>by
    match j,hj with
    | 0,hj=>cases hj;exact(B5.kp k (fun x=>x)).cell rfl
    | 1,hj=>cases hj;exact(B5.kp k (fun x=>x)).cell rfl
   have HCo:Hid (∀wq,Kp (wr.alloc (.cells (ptCells ((c,s),a) sa).toArray 52)) wq Nul->wq.rangeAt wr.heap.size 2 (a.cells sa)):=fun wq k j v hj=>by
    refine(B5.kp k (fun x=>x)).cell ?_
    show (ptCells ((c,s),a) sa)[2+j]? = some v
    rw[Nat.add_comm 2 j];exact hj
   have HCp:Hid (∀wq,Kp (wr.alloc (.cells (ptCells ((c,s),a) sa).toArray 52)) wq Nul->Calls Tryz.prog 47 #[.agg (a.cells sa).toArray] wq fun e w'=>∃sl',e=.returned (.agg (a.cells sl').toArray)/\(∃fp,Own w' wq.heap.size sl' a.t fp)/\Kp wq w' Nul):=fun wq k=>by
    have hk:Kp wr wq Nul:=((Kp.refl wr Nul).alloc _).trans k
    refine(gCopy_at a sa (fun i=>i<A) wq hgd.x hgd.size hgd.ok (htree.kp hk (fun _ _ x=>x))).mono ?_
    rintro e w' ⟨sl',fp,rfl,h1,h2⟩
    rw[hgd.cp] at h1 ⊢
    exact⟨sl',rfl,⟨fp,h1⟩,Kp.of_below h2⟩
   have hkb:(q:Int)+1<=9223372036854775807:=by have:=HLK.out;omega
   have hq0:(0:Int)<=(q:Int):=by omega
   have hqn:(q:Int)<(n:Int):=by omega
   clear hqt hys hget htree hKq hgd hbl B5
   gi_wp2_with (first
    | (refine loadIn_put rfl (.tmp 14) rfl b (q*23) rfl (ptCells ((c,s),a) sa) HR.out rfl ?_)
    | (refine storeIn_new' rfl 52 (.tmp 5) (.tmp 15) rfl _ _ _ _ (by first|rfl|simp) rfl rfl rfl infoPut (all_oneCell_toArray (pt_one _ O1.out)) ?_)
    | fail)
   refine regIn_noPanic ?_
   refine wpIn_region_any (by kernel_rfl) ?_
   refine any_take (i:=0) (.func (.yield (w.heap.size+1)) #[] #[]) (some 16) rfl rfl (by kernel_rfl) (by kernel_rfl) (by kernel_rfl) (fun _ _ _ h=>h) rfl (fun _=>rfl) (fun _=>by go_simp) ?_
   simp only[Act.put,Sz0,Sz1,Sz2]
   refine any_take (i:=1) (.pointer (some ⟨wr.heap.size,0,none⟩)) (some 17) rfl rfl (by kernel_rfl) (by kernel_rfl) (by kernel_rfl) (fun _ _ _ h=>h) rfl (fun _=>rfl) (fun _=>by go_simp) ?_
   simp only[Act.put,Sz0,Sz1,Sz2]
   refine any_take (i:=3) (.pointer (some ⟨wr.heap.size,2,none⟩)) (some 19) rfl rfl (by kernel_rfl) (by kernel_rfl) (by kernel_rfl) (fun _ _ _ h=>h) rfl (fun _=>rfl) (fun _=>by go_simp) ?_
   simp only[Act.put,Sz0,Sz1,Sz2]
   refine wpAnyIn_ready (rs:=[2,4]) (by kernel_rfl) (by simp) ?_
   intro i hi
   rcases List.mem_cons.1 hi with rfl|hi
   ·clear hi
    refine any_val (v:=.agg #[.int .i64 c,.int .i64 s]) (some 18) rfl rfl rfl rfl (fun c h=>by cases h) (w':=(wr.alloc (.cells (ptCells ((c,s),a) sa).toArray 52)).drew) (exec_load_row 32 (.tmp 17) rfl wr.heap.size 0 rfl [.int .i64 c,.int .i64 s] _ (HAt.out (wr.alloc (.cells (ptCells ((c,s),a) sa).toArray 52)).drew ((Kp.refl _ _).drew)) Tryz.underlying32 rfl infoAddr2) ?_
    simp only[Act.put,Sz0,Sz1,Sz2]
    refine wpAnyIn_ready (rs:=[4]) (by kernel_rfl) (by simp) ?_
    intro i hi
    obtain rfl:=List.mem_singleton.1 hi
    clear hi
    refine any_val (v:=.agg (a.cells sa).toArray) (some 20) rfl rfl rfl rfl (fun c h=>by cases h) (w':=(wr.alloc (.cells (ptCells ((c,s),a) sa).toArray 52)).drew) (exec_load_row 50 (.tmp 19) rfl wr.heap.size 2 rfl (a.cells sa) _ (HCo.out _ ((Kp.refl _ _).drew)) Tryz.underlying50 rfl infoContent) ?_
    simp only[Act.put,Sz0,Sz1,Sz2]
    refine wpAnyIn_ready (rs:=[5]) (by kernel_rfl) (by simp) ?_
    intro i hi
    obtain rfl:=List.mem_singleton.1 hi
    clear hi
    refine any_call (f:=47) (args:=#[.agg (a.cells sa).toArray]) (some 21) rfl rfl rfl (by decide) (fun c h=>by cases h) (w':=(wr.alloc (.cells (ptCells ((c,s),a) sa).toArray 52)).drew) (by go_simp) ?_
    refine(HCp.out _ ((Kp.refl _ _).drew)).mono ?_
    rintro e w4 ⟨s4,rfl,⟨f4,ho4⟩,hk4⟩
    refine⟨_,rfl,?_⟩
    simp only[Act.put,Sz0,Sz1,Sz2]
    refine wpAnyIn_ready (rs:=[6]) (by kernel_rfl) (by simp) ?_
    intro i hi
    obtain rfl:=List.mem_singleton.1 hi
    clear hi
    have hK4:Kp wr w4 Nul:=((Kp.refl wr Nul).alloc _).drew.trans hk4
    have hs5:(wr.alloc (.cells (ptCells ((c,s),a) sa).toArray 52)).drew.heap.size=wr.heap.size+1:=World.size_alloc _ _
    obtain⟨fn,tms,asg,bod,hy,hR⟩:=HY.out 7 q ((((c,s),a),s4),f4) Zq w4 hlt (HJ.out _ _ _ _ HJQ.out hK4) ⟨HKQ.out,ho4.own,ho4.nodup,fun i hi=>by
     have h1:=(ho4.new i hi).1
     have h2:=HSZ.out
     have h3:=HIN.out.size
     exact⟨by omega,fun hz=>by have:=(HJZ.out _ _ _ HJQ.out).1 i hz;omega⟩⟩
    refine any_round (l:=w.heap.size+1) (f:=fn) (tms:=tms) (asg:=asg) (bod:=bod) (some 22) rfl rfl rfl (by decide) (fun c h=>by cases h) (w':=w4) ?_ ?_
    ·first
     | (go_simp;done)
     | (go_simp;exact hy)
    refine hR.mono ?_
    rintro e w6 (⟨rfl,⟨Z6,hj6,hm6⟩,hk6⟩|⟨rfl,hx6⟩)
    rotate_left
    ·have HX6:Hid (Jx w6):=hx6
     refine⟨_,rfl,?_⟩
     simp only[Act.put,Sz0,Sz1,Sz2]
     clear hy hR hx6 hk4 ho4 hK4 hs5
     refine wpAnyIn_ready (rs:=[7]) (by kernel_rfl) (by simp) ?_
     intro i hi
     obtain rfl:=List.mem_singleton.1 hi
     clear hi
     refine any_val (v:=.bool true) (some 23) rfl rfl rfl rfl (fun c h=>by cases h) (w':=w6) (by go_simp) ?_
     simp only[Act.put,Sz0,Sz1,Sz2]
     refine wpAnyIn_done (by kernel_rfl) ?_ _
     refine NoPanic.normal ?_
     gi_wp2_with (fail)
     refine bodyPost_ret (res_none rfl _ _) rfl ?_
     exact⟨⟨_,rfl⟩,.inr HX6.out⟩
    refine⟨_,rfl,?_⟩
    simp only[Act.put,Sz0,Sz1,Sz2]
    have HJ6:Hid (J (q+1) Z6 w6):=hj6
    have HIN6:Hid (InR W A b ys Z6 w6):=by
     have k6:Kp wr w6 (fun i=>(Zq i∨i∈f4)∨i=w.heap.size+1):=hK4.of_nul.trans hk6
     have hbl:=HBL.out
     have hb2:=HW2.out.low
     have hb3:=HSZ.out
     refine⟨fun hz=>?_,fun i y hy=>rangeAt_kp (HIN.out.rng i y hy) k6 (fun e=>?_),fun y hy=>(HIN.out.tree y hy).kp k6 (fun i hi e=>?_),Nat.le_trans HIN.out.size k6.size⟩
     ·rcases hm6 b hz with h|h
      ·exact HIN.out.nz h
      ·have h1:=HBL.out
       have h2:=hK4.size
       omega
     ·rcases e with (e|e)|e
      ·exact HIN.out.nz e
      ·have:=(ho4.new _ e).1;omega
      ·omega
     ·have hi':i<A:=hi
      have h1:=HA.out
      rcases e with (e|e)|e
      ·have:=HS.out i ((HJZ.out _ _ _ HJQ.out).2 i (by omega) e)
       omega
      ·have:=(ho4.new _ e).1;have:=HIN.out.size;omega
      ·omega
    clear hy hR hj6 hm6 hk6 hk4 ho4 hK4 hs5
    refine wpAnyIn_ready (rs:=[7]) (by kernel_rfl) (by simp) ?_
    intro i hi
    obtain rfl:=List.mem_singleton.1 hi
    clear hi
    refine any_val (v:=.bool false) (some 23) rfl rfl rfl rfl (fun c h=>by cases h) (w':=w6) (by go_simp) ?_
    simp only[Act.put,Sz0,Sz1,Sz2]
    refine wpAnyIn_done (by kernel_rfl) ?_ _
    refine NoPanic.normal ?_
    gi_wp2_with (fail)
    exact⟨⟨q+1,Z6,by omega,by go_num,HJ6.out,HIN6.out⟩,by simp only[RowKit.intOf];omega⟩
   ·obtain rfl:=List.mem_singleton.1 hi
    clear hi
    refine any_val (v:=.agg (a.cells sa).toArray) (some 20) rfl rfl rfl rfl (fun c h=>by cases h) (w':=(wr.alloc (.cells (ptCells ((c,s),a) sa).toArray 52)).drew) (exec_load_row 50 (.tmp 19) rfl wr.heap.size 2 rfl (a.cells sa) _ (HCo.out _ ((Kp.refl _ _).drew)) Tryz.underlying50 rfl infoContent) ?_
    simp only[Act.put,Sz0,Sz1,Sz2]
    refine wpAnyIn_ready (rs:=[2,5]) (by kernel_rfl) (by simp) ?_
    intro i hi
    rcases List.mem_cons.1 hi with rfl|hi
    ·clear hi
     refine any_val (v:=.agg #[.int .i64 c,.int .i64 s]) (some 18) rfl rfl rfl rfl (fun c h=>by cases h) (w':=(wr.alloc (.cells (ptCells ((c,s),a) sa).toArray 52)).drew) (exec_load_row 32 (.tmp 17) rfl wr.heap.size 0 rfl [.int .i64 c,.int .i64 s] _ (HAt.out (wr.alloc (.cells (ptCells ((c,s),a) sa).toArray 52)).drew ((Kp.refl _ _).drew)) Tryz.underlying32 rfl infoAddr2) ?_
     simp only[Act.put,Sz0,Sz1,Sz2]
     refine wpAnyIn_ready (rs:=[5]) (by kernel_rfl) (by simp) ?_
     intro i hi
     obtain rfl:=List.mem_singleton.1 hi
     clear hi
     refine any_call (f:=47) (args:=#[.agg (a.cells sa).toArray]) (some 21) rfl rfl rfl (by decide) (fun c h=>by cases h) (w':=(wr.alloc (.cells (ptCells ((c,s),a) sa).toArray 52)).drew) (by go_simp) ?_
     refine(HCp.out _ ((Kp.refl _ _).drew)).mono ?_
     rintro e w4 ⟨s4,rfl,⟨f4,ho4⟩,hk4⟩
     refine⟨_,rfl,?_⟩
     simp only[Act.put,Sz0,Sz1,Sz2]
     refine wpAnyIn_ready (rs:=[6]) (by kernel_rfl) (by simp) ?_
     intro i hi
     obtain rfl:=List.mem_singleton.1 hi
     clear hi
     have hK4:Kp wr w4 Nul:=((Kp.refl wr Nul).alloc _).drew.trans hk4
     have hs5:(wr.alloc (.cells (ptCells ((c,s),a) sa).toArray 52)).drew.heap.size=wr.heap.size+1:=World.size_alloc _ _
     obtain⟨fn,tms,asg,bod,hy,hR⟩:=HY.out 7 q ((((c,s),a),s4),f4) Zq w4 hlt (HJ.out _ _ _ _ HJQ.out hK4) ⟨HKQ.out,ho4.own,ho4.nodup,fun i hi=>by
      have h1:=(ho4.new i hi).1
      have h2:=HSZ.out
      have h3:=HIN.out.size
      exact⟨by omega,fun hz=>by have:=(HJZ.out _ _ _ HJQ.out).1 i hz;omega⟩⟩
     refine any_round (l:=w.heap.size+1) (f:=fn) (tms:=tms) (asg:=asg) (bod:=bod) (some 22) rfl rfl rfl (by decide) (fun c h=>by cases h) (w':=w4) ?_ ?_
     ·first
      | (go_simp;done)
      | (go_simp;exact hy)
     refine hR.mono ?_
     rintro e w6 (⟨rfl,⟨Z6,hj6,hm6⟩,hk6⟩|⟨rfl,hx6⟩)
     rotate_left
     ·have HX6:Hid (Jx w6):=hx6
      refine⟨_,rfl,?_⟩
      simp only[Act.put,Sz0,Sz1,Sz2]
      clear hy hR hx6 hk4 ho4 hK4 hs5
      refine wpAnyIn_ready (rs:=[7]) (by kernel_rfl) (by simp) ?_
      intro i hi
      obtain rfl:=List.mem_singleton.1 hi
      clear hi
      refine any_val (v:=.bool true) (some 23) rfl rfl rfl rfl (fun c h=>by cases h) (w':=w6) (by go_simp) ?_
      simp only[Act.put,Sz0,Sz1,Sz2]
      refine wpAnyIn_done (by kernel_rfl) ?_ _
      refine NoPanic.normal ?_
      gi_wp2_with (fail)
      refine bodyPost_ret (res_none rfl _ _) rfl ?_
      exact⟨⟨_,rfl⟩,.inr HX6.out⟩
     refine⟨_,rfl,?_⟩
     simp only[Act.put,Sz0,Sz1,Sz2]
     have HJ6:Hid (J (q+1) Z6 w6):=hj6
     have HIN6:Hid (InR W A b ys Z6 w6):=by
      have k6:Kp wr w6 (fun i=>(Zq i∨i∈f4)∨i=w.heap.size+1):=hK4.of_nul.trans hk6
      have hbl:=HBL.out
      have hb2:=HW2.out.low
      have hb3:=HSZ.out
      refine⟨fun hz=>?_,fun i y hy=>rangeAt_kp (HIN.out.rng i y hy) k6 (fun e=>?_),fun y hy=>(HIN.out.tree y hy).kp k6 (fun i hi e=>?_),Nat.le_trans HIN.out.size k6.size⟩
      ·rcases hm6 b hz with h|h
       ·exact HIN.out.nz h
       ·have h1:=HBL.out
        have h2:=hK4.size
        omega
      ·rcases e with (e|e)|e
       ·exact HIN.out.nz e
       ·have:=(ho4.new _ e).1;omega
       ·omega
      ·have hi':i<A:=hi
       have h1:=HA.out
       rcases e with (e|e)|e
       ·have:=HS.out i ((HJZ.out _ _ _ HJQ.out).2 i (by omega) e)
        omega
       ·have:=(ho4.new _ e).1;have:=HIN.out.size;omega
       ·omega
     clear hy hR hj6 hm6 hk6 hk4 ho4 hK4 hs5
     refine wpAnyIn_ready (rs:=[7]) (by kernel_rfl) (by simp) ?_
     intro i hi
     obtain rfl:=List.mem_singleton.1 hi
     clear hi
     refine any_val (v:=.bool false) (some 23) rfl rfl rfl rfl (fun c h=>by cases h) (w':=w6) (by go_simp) ?_
     simp only[Act.put,Sz0,Sz1,Sz2]
     refine wpAnyIn_done (by kernel_rfl) ?_ _
     refine NoPanic.normal ?_
     gi_wp2_with (fail)
     exact⟨⟨q+1,Z6,by omega,by go_num,HJ6.out,HIN6.out⟩,by simp only[RowKit.intOf];omega⟩
    ·obtain rfl:=List.mem_singleton.1 hi
     clear hi
     refine any_call (f:=47) (args:=#[.agg (a.cells sa).toArray]) (some 21) rfl rfl rfl (by decide) (fun c h=>by cases h) (w':=(wr.alloc (.cells (ptCells ((c,s),a) sa).toArray 52)).drew) (by go_simp) ?_
     refine(HCp.out _ ((Kp.refl _ _).drew)).mono ?_
     rintro e w4 ⟨s4,rfl,⟨f4,ho4⟩,hk4⟩
     refine⟨_,rfl,?_⟩
     simp only[Act.put,Sz0,Sz1,Sz2]
     refine wpAnyIn_ready (rs:=[2]) (by kernel_rfl) (by simp) ?_
     intro i hi
     obtain rfl:=List.mem_singleton.1 hi
     clear hi
     refine any_val (v:=.agg #[.int .i64 c,.int .i64 s]) (some 18) rfl rfl rfl rfl (fun c h=>by cases h) (w':=w4) (exec_load_row 32 (.tmp 17) rfl wr.heap.size 0 rfl [.int .i64 c,.int .i64 s] _ (HAt.out w4 (((Kp.refl _ _).drew).trans hk4)) Tryz.underlying32 rfl infoAddr2) ?_
     simp only[Act.put,Sz0,Sz1,Sz2]
     refine wpAnyIn_ready (rs:=[6]) (by kernel_rfl) (by simp) ?_
     intro i hi
     obtain rfl:=List.mem_singleton.1 hi
     clear hi
     have hK4:Kp wr w4 Nul:=((Kp.refl wr Nul).alloc _).drew.trans hk4
     have hs5:(wr.alloc (.cells (ptCells ((c,s),a) sa).toArray 52)).drew.heap.size=wr.heap.size+1:=World.size_alloc _ _
     obtain⟨fn,tms,asg,bod,hy,hR⟩:=HY.out 7 q ((((c,s),a),s4),f4) Zq w4 hlt (HJ.out _ _ _ _ HJQ.out hK4) ⟨HKQ.out,ho4.own,ho4.nodup,fun i hi=>by
      have h1:=(ho4.new i hi).1
      have h2:=HSZ.out
      have h3:=HIN.out.size
      exact⟨by omega,fun hz=>by have:=(HJZ.out _ _ _ HJQ.out).1 i hz;omega⟩⟩
     refine any_round (l:=w.heap.size+1) (f:=fn) (tms:=tms) (asg:=asg) (bod:=bod) (some 22) rfl rfl rfl (by decide) (fun c h=>by cases h) (w':=w4) ?_ ?_
     ·first
      | (go_simp;done)
      | (go_simp;exact hy)
     refine hR.mono ?_
     rintro e w6 (⟨rfl,⟨Z6,hj6,hm6⟩,hk6⟩|⟨rfl,hx6⟩)
     rotate_left
     ·have HX6:Hid (Jx w6):=hx6
      refine⟨_,rfl,?_⟩
      simp only[Act.put,Sz0,Sz1,Sz2]
      clear hy hR hx6 hk4 ho4 hK4 hs5
      refine wpAnyIn_ready (rs:=[7]) (by kernel_rfl) (by simp) ?_
      intro i hi
      obtain rfl:=List.mem_singleton.1 hi
      clear hi
      refine any_val (v:=.bool true) (some 23) rfl rfl rfl rfl (fun c h=>by cases h) (w':=w6) (by go_simp) ?_
      simp only[Act.put,Sz0,Sz1,Sz2]
      refine wpAnyIn_done (by kernel_rfl) ?_ _
      refine NoPanic.normal ?_
      gi_wp2_with (fail)
      refine bodyPost_ret (res_none rfl _ _) rfl ?_
      exact⟨⟨_,rfl⟩,.inr HX6.out⟩
     refine⟨_,rfl,?_⟩
     simp only[Act.put,Sz0,Sz1,Sz2]
     have HJ6:Hid (J (q+1) Z6 w6):=hj6
     have HIN6:Hid (InR W A b ys Z6 w6):=by
      have k6:Kp wr w6 (fun i=>(Zq i∨i∈f4)∨i=w.heap.size+1):=hK4.of_nul.trans hk6
      have hbl:=HBL.out
      have hb2:=HW2.out.low
      have hb3:=HSZ.out
      refine⟨fun hz=>?_,fun i y hy=>rangeAt_kp (HIN.out.rng i y hy) k6 (fun e=>?_),fun y hy=>(HIN.out.tree y hy).kp k6 (fun i hi e=>?_),Nat.le_trans HIN.out.size k6.size⟩
      ·rcases hm6 b hz with h|h
       ·exact HIN.out.nz h
       ·have h1:=HBL.out
        have h2:=hK4.size
        omega
      ·rcases e with (e|e)|e
       ·exact HIN.out.nz e
       ·have:=(ho4.new _ e).1;omega
       ·omega
      ·have hi':i<A:=hi
       have h1:=HA.out
       rcases e with (e|e)|e
       ·have:=HS.out i ((HJZ.out _ _ _ HJQ.out).2 i (by omega) e)
        omega
       ·have:=(ho4.new _ e).1;have:=HIN.out.size;omega
       ·omega
     clear hy hR hj6 hm6 hk6 hk4 ho4 hK4 hs5
     refine wpAnyIn_ready (rs:=[7]) (by kernel_rfl) (by simp) ?_
     intro i hi
     obtain rfl:=List.mem_singleton.1 hi
     clear hi
     refine any_val (v:=.bool false) (some 23) rfl rfl rfl rfl (fun c h=>by cases h) (w':=w6) (by go_simp) ?_
     simp only[Act.put,Sz0,Sz1,Sz2]
     refine wpAnyIn_done (by kernel_rfl) ?_ _
     refine NoPanic.normal ?_
     gi_wp2_with (fail)
     exact⟨⟨q+1,Z6,by omega,by go_num,HJ6.out,HIN6.out⟩,by simp only[RowKit.intOf];omega⟩
  ·have hqe:q=n:=by omega
   subst hqe
   have hqn:¬((q:Int)<(q:Int)):=by omega
   have HJN:Hid (∃Z',J q Z' wr):=⟨_,HJQ.out⟩
   gi_wp2_with (fail)
   go_end0
   exact⟨⟨_,rfl⟩,.inl (by rw[HN.out];exact HJN.out)⟩
end Go.Proofs.YtecjfnkakodebaaGreatDoor
namespace Go.Proofs.YtecjfnkakodebaaGreatDoor
open Go.RowKit Go.Maps Go.Sort Go.Lib Go.Shelf
attribute [local go_sem] Oper.semAt_some
end Go.Proofs.YtecjfnkakodebaaGreatDoor
namespace Go.Proofs.YtecjfnkakodebaaGreatDoor
open Go.RowKit Go.Shelf
attribute [local go_sem] Oper.semAt_some
def Rd (L:List Cc) (p:Int×Int) (u:Ct):Prop:=(p,u)∈L∨(u=ct0/\∀a,(p,a)∉L)
theorem get_any (g:Nat) (M:List Cc) (w:World) (hg:GI 0 w g M) (hM:Ok17 M) (c s:Int) (hc:I64 c) (hs:I64 s) :
  ∃u,Rd M (c,s) u/\u.v.x<18446744073709551616/\u.t.ok/\∀wq,Kp w wq Nul->Calls Tryz.prog 19 #[.pointer (some ⟨g,0,none⟩),.agg #[.int .i64 c,.int .i64 s]] wq fun e w'=>∃sl' fp,e=.returned (u.val sl')/\Own w' wq.heap.size sl' u.t fp/\Kp wq w' Nul:=by
 obtain⟨mv,bo⟩:=hg.blk
 obtain⟨a',sa,bb,hlk,hinA,hax,hao,hasz,hacp,hcase⟩:=look_ct hg hM.gd hc hs bo
 refine⟨a',?_,hax,hao,fun wq0 k0=>?_⟩
 ·rcases hcase with ⟨_,h⟩|⟨_,h1,_,h2⟩
  ·exact .inl h
  ·exact .inr ⟨h1,h2⟩
 ·have hg2:GI 0 wq0 g M:=GridIn.kp hg k0
  obtain⟨mv2,bo2⟩:=hg2.blk
  obtain⟨b',sb,bb2,hlk2,hinB,hbx,hbo,hbsz,hbcp,hcase2⟩:=look_ct hg2 hM.gd hc hs bo2
  have e:b'=a':=by
   rcases hcase with ⟨_,h⟩|⟨_,h1,_,h2⟩
   ·rcases hcase2 with ⟨_,h'⟩|⟨_,_,_,h2'⟩
    ·exact once_eq hg.once h' h
    ·exact absurd h (h2' _)
   ·rcases hcase2 with ⟨_,h'⟩|⟨_,h1',_,h2'⟩
    ·exact absurd h' (h2 _)
    ·rw[h1,h1']
  subst e
  refine get_own g c s mv2 (b'.val sb) bb2 b' wq0 hlk2 (fun wq k=>?_)
  refine(gCopy_at b' sb (fun b=>0<=b) wq hbx hbsz hbo (hinB.kp k (fun _ _ x=>x))).mono ?_
  rintro e w' ⟨sl',fp,rfl,h1,h2⟩
  rw[hbcp] at h1 ⊢
  exact⟨sl',fp,rfl,h1,Kp.of_below h2⟩
section
variable {A B:Ar4} {L M:List Cc}
theorem ct0_k:ct0.k=0:=rfl
theorem rd_no {p:Int×Int} {u:Ct} (h:Rd L p u) (hn:∀a,(p,a)∉L):u=ct0:=by
 rcases h with h|h
 ·exact absurd h (hn u)
 ·exact h.1
theorem rd_in {p:Int×Int} {u a:Ct} (ho:L.Pairwise (fun x y=>x.1≠y.1)) (h:Rd L p u) (ha:(p,a)∈L):u=a:=by
 rcases h with h|h
 ·exact once_eq ho h ha
 ·exact absurd ha (h.2 a)
end
def c12 (k:Nat):Int×Int:=(1+(k%12:Nat),1+(k/12:Nat))
theorem c12_at (x y:Nat) (hx:x<12):c12 (y*12+x)=(1+(x:Int),1+(y:Int)):=by
 unfold c12
 refine Prod.ext ?_ ?_
 ·simp only;omega
 ·simp only;omega
abbrev encX (x:Int×Int):Array Value:=#[.agg #[.int .i64 x.1,.int .i64 x.2]]
def Tell12 (k:Nat) (x:Int×Int) (_:Nat->Prop) (_:World):Prop:=x=c12 k
theorem cellsB (a b c d:Int) (w:World):Calls Tryz.prog 36 #[.agg #[.int .i64 a,.int .i64 b,.int .i64 c,.int .i64 d]] w fun e w'=>∃p,e=.returned (.func (.func 69) #[] #[.pointer (some ⟨p,0,none⟩)])/\Blk w' p [.int .i64 a,.int .i64 b,.int .i64 c,.int .i64 d] 34/\Kp w w' Nul:=by
 go_enter Tryz.func36,Tryz.ntmps36
 go_wp2_with fail
 go_ret
 exact⟨_,rfl,Blk.new w _ _,(Kp.refl _ _).alloc _⟩
theorem cellsL (a b c d:Int) (w:World):Calls Tryz.prog 17 #[.agg #[.int .i64 a,.int .i64 b,.int .i64 c,.int .i64 d]] w fun e w'=>∃p,e=.returned (.func (.func 69) #[] #[.pointer (some ⟨p,0,none⟩)])/\Blk w' p [.int .i64 a,.int .i64 b,.int .i64 c,.int .i64 d] 34/\Kp w w' Nul:=by
 have HC:Hid (∀wq,Calls Tryz.prog 36 #[.agg #[.int .i64 a,.int .i64 b,.int .i64 c,.int .i64 d]] wq fun e w'=>∃p,e=.returned (.func (.func 69) #[] #[.pointer (some ⟨p,0,none⟩)])/\Blk w' p [.int .i64 a,.int .i64 b,.int .i64 c,.int .i64 d] 34/\Kp wq w' Nul):=fun wq=>cellsB a b c d wq
 go_enter Tryz.func17,Tryz.ntmps17
 go_wp2_with fail
 refine(HC.out _).mono ?_
 rintro e w1 ⟨p,rfl,h1,h2⟩
 have HH:Hid (Blk w1 p [.int .i64 a,.int .i64 b,.int .i64 c,.int .i64 d] 34/\Kp w w1 Nul):=⟨h1,((Kp.refl w Nul).alloc _).trans h2⟩
 clear h1 h2 HC
 have hn1:=eq_nilA 69
 go_wp2_with fail
 go_ret
 exact⟨_,rfl,HH.out⟩
theorem cells12_own (Bn:Nat) (w:World) (hB:Blk w Bn [.int .i64 1,.int .i64 1,.int .i64 12,.int .i64 12] 34) (S:Nat->Prop) (hS:¬S Bn):SeqOwn Tryz.prog 69 #[.pointer (some ⟨Bn,0,none⟩)] encX Tell12 144 S w:=by
 intro J Z W hkW hsz hJ hJZ hY h0
 have HV:Hid (∀w,Calls Tryz.prog 58 #[.agg #[.int .i64 1,.int .i64 1,.int .i64 12,.int .i64 12]] w fun e w'=>e=.returned (.bool true)/\Kp w w' Nul):=fun w=>(pValidArea_any 1 1 12 12 w).mono fun e w' h=>⟨h.1,Kp.of_gr h.2⟩
 have hBlt:Bn<w.heap.size:=hB.lt
 have HBk:Hid (∀k Z W1 W',J k Z W1->Kp W1 W' (fun i=>Z i∨i=w.heap.size+1)->Blk W1 Bn [.int .i64 1,.int .i64 1,.int .i64 12,.int .i64 12] 34->Blk W' Bn [.int .i64 1,.int .i64 1,.int .i64 12,.int .i64 12] 34):=fun k Z W1 W' hj hk hb=>hb.kp hk (fun e=>by
  rcases e with e|e
  ·exact hS ((hJZ _ _ _ hj).2 _ hBlt e)
  ·omega)
 have HB:Hid (Blk W Bn [.int .i64 1,.int .i64 1,.int .i64 12,.int .i64 12] 34):=hB.kp hkW (fun x=>x)
 have HJ:Hid (∀k Z W W',J k Z W->Kp W W' Nul->J k Z W'):=hJ
 have HJ0:Hid (J 0 Z W):=h0
 have HY:Hid (∀m k x Z W1,k<144->J k Z W1->Tell12 k x Z W1->YieldAt Fence.wide m Tryz.prog (w.heap.size+1) (encX x) W1 fun e W'=>e=.returned (.bool true)/\(∃Z',J (k+1) Z' W'/\More Z Z' W1)/\Kp W1 W' (fun i=>Z i∨i=w.heap.size+1)):=hY
 obtain⟨l,hl⟩:∃l,w.heap.size+1=l:=⟨_,rfl⟩
 rw[hl] at HY HBk ⊢
 clear hB hkW hsz hJ hJZ hY h0 hl hBlt hS
 refine(callsIn_wide (n:=9)).1 ?_
 refine callsIn_of_wp Tryz.func69 rfl trivial ?_ rfl
 simp only[Tryz.ntmps69,List.size_toArray,List.length_cons,List.length_nil,Nat.reduceAdd,Nat.reduceSub,Array.replicate_succ,Array.replicate_zero,List.push_toArray,List.append_toArray,List.nil_append,List.cons_append]
 have a0:W.cell? ⟨Bn,0,none⟩=some (.int .i64 1):=HB.out.cell rfl
 have a1:W.cell? ⟨Bn,1,none⟩=some (.int .i64 1):=HB.out.cell rfl
 have a2:W.cell? ⟨Bn,2,none⟩=some (.int .i64 12):=HB.out.cell rfl
 have a3:W.cell? ⟨Bn,3,none⟩=some (.int .i64 12):=HB.out.cell rfl
 gi_wp2_with (fail)
 refine⟨trivial,(callsIn_wide.2 (HV.out _)).mono ?_⟩
 rintro e W1 ⟨rfl,hk⟩
 have J1:Hid (∃Z,J 0 Z W1):=⟨Z,HJ.out 0 Z W W1 HJ0.out hk⟩
 have A1:Hid (Blk W1 Bn [.int .i64 1,.int .i64 1,.int .i64 12,.int .i64 12] 34):=HB.out.kp hk (fun x=>x)
 clear hk a0 a1 a2 a3 HJ0 HJ HB HV
 have a0:W1.cell? ⟨Bn,0,none⟩=some (.int .i64 1):=A1.out.cell rfl
 have a1:W1.cell? ⟨Bn,1,none⟩=some (.int .i64 1):=A1.out.cell rfl
 have a2:W1.cell? ⟨Bn,2,none⟩=some (.int .i64 12):=A1.out.cell rfl
 have a3:W1.cell? ⟨Bn,3,none⟩=some (.int .i64 12):=A1.out.cell rfl
 gi_wp2_with (fail)
 clear a0 a1 a2 a3
 gi_loopw [3,4] (fun sr sc wr=>∃y:Nat,y<=12/\sr=.int .i64 (1+y)/\(∃Z,J (y*12) Z wr)/\Blk wr Bn [.int .i64 1,.int .i64 1,.int .i64 12,.int .i64 12] 34) (fun sr _ _=>(13-intOf sr).toNat)
 case atStart=>exact⟨0,Nat.zero_le _,by simp,J1.out,A1.out⟩
 case round=>
  obtain⟨y,hy,rfl,hJs,hnx⟩:=hrel
  have JS:Hid (∃Z,J (y*12) Z wr):=hJs
  have NX:Hid (Blk wr Bn [.int .i64 1,.int .i64 1,.int .i64 12,.int .i64 12] 34):=hnx
  clear hJs hnx
  have c0:wr.cell? ⟨Bn,0,none⟩=some (.int .i64 1):=NX.out.cell rfl
  have c3:wr.cell? ⟨Bn,3,none⟩=some (.int .i64 12):=NX.out.cell rfl
  by_cases hlt:y<12
  ·have hys:(1:Int)+(y:Int)<=12:=by omega
   gi_wp2_with (fail)
   clear c0 c3
   gi_loopw [4] (fun sc wq=>∃x:Nat,x<=12/\sc=.int .i64 (1+x)/\(∃Z,J (y*12+x) Z wq)/\Blk wq Bn [.int .i64 1,.int .i64 1,.int .i64 12,.int .i64 12] 34) (fun sc _=>(13-intOf sc).toNat)
   case atStart=>exact⟨0,Nat.zero_le _,by simp,JS.out,NX.out⟩
   case round=>
    clear JS NX
    obtain⟨x,hx,rfl,hJs,hnx⟩:=hrel
    have NX:Hid (Blk wr Bn [.int .i64 1,.int .i64 1,.int .i64 12,.int .i64 12] 34):=hnx
    obtain⟨Zq,hJs⟩:=hJs
    have JS:Hid (J (y*12+x) Zq wr):=hJs
    clear hJs hnx
    have c2:wr.cell? ⟨Bn,2,none⟩=some (.int .i64 12):=NX.out.cell rfl
    by_cases hlx:x<12
    ·have hxs:(1:Int)+(x:Int)<=12:=by omega
     obtain⟨fn,tmps,assign,body,hy',hR⟩:=HY.out (9-1) (y*12+x) (1+(x:Int),1+(y:Int)) Zq wr (by omega) JS.out (c12_at x y hlx).symm
     dsimp only [encX] at hy'
     gi_wp2_with (fail)
     refine hR.mono ?_
     rintro e W3 ⟨rfl,⟨Z3,hJ3,_⟩,hk3⟩
     have J3:Hid (∃Z,J (y*12+(x+1)) Z W3):=⟨Z3,hJ3⟩
     have K3:Hid (Blk W3 Bn [.int .i64 1,.int .i64 1,.int .i64 12,.int .i64 12] 34):=HBk.out _ _ _ _ JS.out hk3 NX.out
     clear hJ3 hk3
     gi_wp2_with (fail)
     go_roundw
     case rel=>exact⟨x+1,by omega,by go_num,J3.out,K3.out⟩
     case measure=>simp only[intOf];omega
    ·have hxe:x=12:=by omega
     subst hxe
     have JE:Hid (∃Z,J ((y+1)*12) Z wr):=⟨Zq,by rw[Nat.add_mul,Nat.one_mul];exact JS.out⟩
     gi_wp2_with (fail)
     go_roundw
     case rel=>exact⟨y+1,by omega,by go_num,JE.out,NX.out⟩
     case measure=>simp only[intOf];omega
  ·have hye:y=12:=by omega
   subst hye
   gi_wp2_with (fail)
   go_end0
   exact⟨⟨_,rfl⟩,JS.out⟩
end Go.Proofs.YtecjfnkakodebaaGreatDoor
