/-Copy, Fill, Clear: all they answer. -/
import Derived.Test.YtecjfnkakodebaaGreatDoorQwMzp
set_option maxRecDepth 20000
set_option maxHeartbeats 8000000
namespace Go.Proofs.YtecjfnkakodebaaGreatDoor
open Go.RowKit Go.Maps
structure CpR (A:Ar4) (t:Int×Int) (L:List Cc) (w w':World) (v:Value):Prop where
 kp:Kp w w' Nul
 bad:¬Ar4.ok A=true->v=.tuple #[.pointer none,.int .i64 1]
 off:Ar4.ok A=true->¬fits A t=true->v=.tuple #[.pointer none,.int .i64 20]
 ok:Ar4.ok A=true->fits A t=true->∃K M0,Strict (K.map (·.1))/\(∀x,x∈K↔x∈inL A.1.1 A.1.2 A.2.1 A.2.2 L)/\CpV w w' L M0 (cpY A.1.1 A.1.2 t.1 t.2 K) (mvTo A t).1.1 (mvTo A t).1.2 (mvTo A t).2.1 (mvTo A t).2.2 v
theorem copied_in {A:Ar4} {t:Int×Int} (hA:Ar4.ok A=true) (hf:fits A t=true) {c s:Int} (h:inA A.1.1 A.1.2 A.2.1 A.2.2 c s=true):vC (c+t.1-A.1.1) (s+t.2-A.1.2)=true:=by
 have h1:=(ar_ok _).1 hA
 have h2:=(ar_ok _).1 (show Ar4.ok (mvTo A t)=true from hf)
 unfold mvTo at h2
 simp only at h2
 unfold inA at h
 simp only[Bool.and_eq_true,decide_eq_true_eq] at h
 rw[vC_iff]
 omega
theorem move_copy_at (g:Nat) (A:Ar4) (t:Int×Int) (L:List Cc) (w:World) (hg:GI 0 w g L) (hL:Ok17 L) (hv:VS w) :
  Calls Tryz.prog 16 #[.pointer (some ⟨g,0,none⟩),.agg #[.int .i64 A.1.1,.int .i64 A.1.2,.int .i64 A.2.1,.int .i64 A.2.2],.agg #[.int .i64 t.1,.int .i64 t.2]] w fun e w'=>∃v,e=.returned v/\CpR A t L w w' v:=by
 by_cases hA:Ar4.ok A=true
 ·by_cases hf:fits A t=true
  ·obtain⟨K,hKs,hKm⟩:=in_order (inL_once (m1:=A.1.1) (m2:=A.1.2) (m3:=A.2.1) (m4:=A.2.2) (L:=L) rfl hg.once)
   refine(copy_core g L K _ A.1.1 A.1.2 A.2.1 A.2.2 t.1 t.2 (mvTo A t).1.1 (mvTo A t).1.2 (mvTo A t).2.1 (mvTo A t).2.2 w hg hL hKs hKm rfl (fun x hx=>copied_in hA hf ((inL_iff rfl).1 ((hKm x).1 hx)).2)
    (fun w=>?_) (fun wq k=>without_at g L _ _ _ _ wq (hg.kp k) hL (hv.kp k)) (fun w=>in_all g _ _ _ _ w) (fun c s w h1 h2=>?_)
    (fun G F g2 c s c' s' a sl M wq k h1 h2 h3 h4 h5 h6 h7=>putCopy_at G g2 c' s' c s a sl F M wq h1 h2 h3 h4 h5 h6 h7 (hv.kp k))).mono ?_
   ·have h:=asGreat_at g A t w
    unfold agV at h
    rw[if_pos hA,if_pos hf] at h
    exact h
   ·have h:=moved_at c s A.1.1 A.1.2 t.1 t.2 w
    have hA':=(ar_ok _).1 hA
    have ht:=(ar_ok _).1 (show Ar4.ok (mvTo A t)=true from hf)
    unfold mvTo at ht
    simp only at ht
    rw[vC_iff] at h1 h2
    rw[mvd_val (by unfold I64;omega),mvd_val (by unfold I64;omega)] at h
    exact h
   ·rintro e w' ⟨v,M0,rfl,h⟩
    exact⟨v,rfl,h.kp,fun q=>absurd hA q,fun _ q=>absurd hf q,fun _ _=>⟨K,M0,hKs,hKm,h⟩⟩
  ·refine(copy_off g A t w hA hf).mono ?_
   rintro e w' ⟨rfl,k⟩
   exact⟨_,rfl,k,fun q=>absurd hA q,fun _ _=>rfl,fun _ q=>absurd q hf⟩
 ·refine(copy_bad g A t w hA).mono ?_
  rintro e w' ⟨rfl,k⟩
  exact⟨_,rfl,k,fun _=>rfl,fun q=>absurd q hA,fun q=>absurd q hA⟩
structure FiR (A:Ar4) (f:Int×Int) (L:List Cc) (w w':World) (v:Value):Prop where
 kp:Kp w w' Nul
 bad:¬Ar4.ok A=true->v=.tuple #[.pointer none,.int .i64 1]
 off:Ar4.ok A=true->¬vC f.1 f.2=true->v=.tuple #[.pointer none,.int .i64 20]
 ok:Ar4.ok A=true->vC f.1 f.2=true->∃u M0,Rd L f u/\CpV w w' L M0 (if u.k=0 then [] else flY f.1 f.2 A.1.1 A.1.2 A.2.1 A.2.2 u) A.1.1 A.1.2 A.2.1 A.2.2 v
theorem rd_gd {L:List Cc} {p:Int×Int} {u:Ct} (hL:Ok17 L) (h:Rd L p u) (hk:u.k≠0):Gd u:=by
 rcases h with h|⟨rfl,_⟩
 ·exact hL.gd _ h
 ·exact absurd rfl hk
theorem move_fill_at (g:Nat) (A:Ar4) (f:Int×Int) (L:List Cc) (w:World) (hg:GI 0 w g L) (hL:Ok17 L) (hv:VS w) :
  Calls Tryz.prog 22 #[.pointer (some ⟨g,0,none⟩),.agg #[.int .i64 f.1,.int .i64 f.2],.agg #[.int .i64 A.1.1,.int .i64 A.1.2,.int .i64 A.2.1,.int .i64 A.2.2]] w fun e w'=>∃v,e=.returned v/\FiR A f L w w' v:=by
 by_cases hA:Ar4.ok A=true
 ·by_cases hf:vC f.1 f.2=true
  ·have hf':=(vC_iff _ _).1 hf
   obtain⟨u,hr,hx,ho,hget⟩:=get_any g L w hg hL f.1 f.2 (by unfold I64;omega) (by unfold I64;omega)
   refine(fill_core g L _ u A.1.1 A.1.2 A.2.1 A.2.2 f.1 f.2 w hf hA (rd_gd hL hr) rfl
    (fun w=>(pValidArea_any A.1.1 A.1.2 A.2.1 A.2.2 w).mono fun e w' q=>⟨by rw[q.1];exact congrArg (fun b=>Ending.returned (.bool b)) (show Ar4.ok A=true from hA),Kp.of_gr q.2⟩)
    (fun w=>(pValid_at f.1 f.2 w).mono fun e w' q=>⟨by rw[q.1,hf],by rw[q.2];exact(Kp.refl w Nul).alloc _⟩)
    (fun wq k=>without_at g L _ _ _ _ wq (hg.kp k) hL (hv.kp k)) hget
    (fun G F g2 c s sl M wq k h1 h2 h3 h4 h5 h6=>putCopy_at G g2 c s f.1 f.2 u sl F M wq h1 h2 h3 h4 h5 hf h6 (hv.kp k))).mono ?_
   rintro e w' ⟨v,M0,rfl,h⟩
   exact⟨v,rfl,h.kp,fun q=>absurd hA q,fun _ q=>absurd hf q,fun _ _=>⟨u,M0,hr,h⟩⟩
  ·have h:=fill_bad g A f w (fun _=>hf)
   rw[if_pos hA] at h
   refine h.mono ?_
   rintro e w' ⟨rfl,k⟩
   exact⟨_,rfl,k,fun q=>absurd hA q,fun _ _=>rfl,fun _ q=>absurd q hf⟩
 ·have h:=fill_bad g A f w (fun q=>absurd q hA)
  rw[if_neg hA] at h
  refine h.mono ?_
  rintro e w' ⟨rfl,k⟩
  exact⟨_,rfl,k,fun _=>rfl,fun q=>absurd q hA,fun q=>absurd q hA⟩
structure ClR (A:Ar4) (L:List Cc) (w w':World) (v:Value):Prop where
 kp:Kp w w' Nul
 bad:¬Ar4.ok A=true->v=.tuple #[.pointer none,.int .i64 1]
 ok:Ar4.ok A=true->∃g2 M,v=.tuple #[.pointer (some ⟨g2,0,none⟩),.int .i64 0]/\GridIn w' (fun i=>w.heap.size<=i) g2 M/\Ok17 M/\∀y,y∈M↔y∈L/\y∉inL A.1.1 A.1.2 A.2.1 A.2.2 L
theorem clear_yes (g:Nat) (A1 A2 A3 A4:Int) (R:Nat->World->Prop) (w:World)
  (hng:∀(b:Nat) (wq:World),(binOp .eql 24 (.pointer (some ⟨b,0,none⟩)) (.pointer none)).run Tryz.prog wq=.ok (.bool false) wq)
  (HV:Hid (∀w,Calls Tryz.prog 58 #[.agg #[.int .i64 A1,.int .i64 A2,.int .i64 A3,.int .i64 A4]] w fun e w'=>e=.returned (.bool true)/\Kp w w' Nul))
  (HWo:Hid (∀wq,Kp w wq Nul->Calls Tryz.prog 53 #[.pointer (some ⟨g,0,none⟩),.agg #[.int .i64 A1,.int .i64 A2,.int .i64 A3,.int .i64 A4]] wq fun e w'=>∃g2,e=.returned (.pointer (some ⟨g2,0,none⟩))/\R g2 w')) :
  Calls Tryz.prog 23 #[.pointer (some ⟨g,0,none⟩),.agg #[.int .i64 A1,.int .i64 A2,.int .i64 A3,.int .i64 A4]] w fun e w'=>∃g2,e=.returned (.tuple #[.pointer (some ⟨g2,0,none⟩),.int .i64 0])/\R g2 w':=by
 have kW:Hid (∀a,Kp w (w.alloc a) Nul):=fun a=>(Kp.refl w Nul).alloc _
 have HB:Hid (∀X,Kp (w.alloc (.cells #[.int .i64 A1,.int .i64 A2,.int .i64 A3,.int .i64 A4] 34)) X Nul->Blk X w.heap.size [.int .i64 A1,.int .i64 A2,.int .i64 A3,.int .i64 A4] 34):=fun X k=>(Blk.new w _ _).kp k (fun x=>x)
 go_enter Tryz.func23,Tryz.ntmps23
 go_wp2_with fail
 refine(HV.out _).mono ?_
 rintro e w1 ⟨rfl,hk1⟩
 have K1:Hid (Kp w w1 Nul):=(kW.out _).trans hk1
 have a0:w1.cell? ⟨w.heap.size,0,none⟩=some (.int .i64 A1):=(HB.out _ hk1).cell rfl
 have a1:w1.cell? ⟨w.heap.size,1,none⟩=some (.int .i64 A2):=(HB.out _ hk1).cell rfl
 have a2:w1.cell? ⟨w.heap.size,2,none⟩=some (.int .i64 A3):=(HB.out _ hk1).cell rfl
 have a3:w1.cell? ⟨w.heap.size,3,none⟩=some (.int .i64 A4):=(HB.out _ hk1).cell rfl
 clear hk1
 go_wp2_with fail
 clear a0 a1 a2 a3
 refine(HWo.out _ K1.out).mono ?_
 rintro e w2 ⟨g2,rfl,hr⟩
 have HR:Hid (R g2 w2):=hr
 clear hr
 go_wp2_with fail
 go_ret2
 first
 | exact⟨g2,rfl,HR.out⟩
 | exact⟨g2,⟨rfl,rfl⟩,HR.out⟩
 | exact HR.out
theorem move_clear_at (g:Nat) (A:Ar4) (L:List Cc) (w:World) (hg:GI 0 w g L) (hL:Ok17 L) (hv:VS w) :
  Calls Tryz.prog 23 #[.pointer (some ⟨g,0,none⟩),.agg #[.int .i64 A.1.1,.int .i64 A.1.2,.int .i64 A.2.1,.int .i64 A.2.2]] w fun e w'=>∃v,e=.returned v/\ClR A L w w' v:=by
 by_cases hA:Ar4.ok A=true
 ·refine(clear_yes g A.1.1 A.1.2 A.2.1 A.2.2 (fun g2 w'=>∃M,GridIn w' (fun i=>w.heap.size<=i) g2 M/\Ok17 M/\(∀y,y∈M↔y∈L/\y∉inL A.1.1 A.1.2 A.2.1 A.2.2 L)/\Kp w w' Nul) w nil_ptr'
   (fun w=>(pValidArea_any A.1.1 A.1.2 A.2.1 A.2.2 w).mono fun e w' q=>⟨by rw[q.1];exact congrArg (fun b=>Ending.returned (.bool b)) (show Ar4.ok A=true from hA),Kp.of_gr q.2⟩)
   (fun wq k=>(without_at g L A.1.1 A.1.2 A.2.1 A.2.2 wq (hg.kp k) hL (hv.kp k)).mono (by
    rintro e w' ⟨g2,M,rfl,h1,h2,h3,_,h5⟩
    exact⟨g2,rfl,M,h1.mono (fun i hi=>Nat.le_trans k.size hi),h2,h3,k.trans h5⟩))).mono ?_
  rintro e w' ⟨g2,rfl,M,h1,h2,h3,h4⟩
  exact⟨_,rfl,h4,fun q=>absurd hA q,fun _=>⟨g2,M,rfl,h1,h2,h3⟩⟩
 ·refine(clear_bad g A w hA).mono ?_
  rintro e w' ⟨rfl,k⟩
  exact⟨_,rfl,k,fun _=>rfl,fun q=>absurd q hA⟩
end Go.Proofs.YtecjfnkakodebaaGreatDoor
namespace Go.Proofs.YtecjfnkakodebaaGreatDoor
open Go.RowKit Go.Maps
theorem shN_zero {n m:Int} (f:Bool) (h1:1<=n) (h2:n<=m):shN n 0 m f=(n,true):=by
 unfold shN
 cases f with
 | true=>simp
 | false=>
  simp only[Bool.false_eq_true,if_false,Int.add_zero]
  rw[if_neg (by omega)]
  simp[h1,h2]
theorem shH_id5 {h:Hd} (hk:¬h.k=6) (hv:vC h.c1 h.r1=true):shH 0 0 h=some h:=by
 have hv':=(vC_iff _ _).1 hv
 have e1:=shN_zero (n:=h.c1) (m:=256) h.p1 (by omega) (by omega)
 have e2:=shN_zero (n:=h.r1) (m:=4096) h.q1 (by omega) (by omega)
 rw[shH_one _ _ _ hk]
 have ho:shOk h.c1 h.r1 h.p1 h.q1 0 0=true:=by unfold shOk;rw[hv,e1,e2];rfl
 rw[if_pos ho,e1,e2]
theorem shH_id6 {h:Hd} (hk:h.k=6) (hv:vA h.c1 h.r1 h.c2 h.r2=true):shH 0 0 h=some h:=by
 have hv':=vA_bd _ _ _ _ hv
 have e1:=shN_zero (n:=h.c1) (m:=256) h.p1 (by omega) (by omega)
 have e2:=shN_zero (n:=h.r1) (m:=4096) h.q1 (by omega) (by omega)
 have e3:=shN_zero (n:=h.c2) (m:=256) h.p2 (by omega) (by omega)
 have e4:=shN_zero (n:=h.r2) (m:=4096) h.q2 (by omega) (by omega)
 have v1:vC h.c1 h.r1=true:=by rw[vC_iff];omega
 have v2:vC h.c2 h.r2=true:=by rw[vC_iff];omega
 rw[shH_two _ _ _ hk]
 have o1:shOk h.c1 h.r1 h.p1 h.q1 0 0=true:=by unfold shOk;rw[v1,e1,e2];rfl
 have o2:shOk h.c2 h.r2 h.p2 h.q2 0 0=true:=by unfold shOk;rw[v2,e3,e4];rfl
 rw[if_pos ⟨o1,o2⟩]
 simp only[e1,e2,e3,e4]
 have n1:¬h.c2<h.c1:=by omega
 have n2:¬h.r2<h.r1:=by omega
 simp only[if_neg n1,if_neg n2]
mutual
theorem hmN_id:∀(t:Nd) (c:Bool),t.fe c=0->hmN (shH 0 0) t=t
 | .mk h ts,c,h0=>by
  rw[Nd.fe] at h0
  by_cases ho:ownE h ts.length c=0
  rotate_left
  ·rw[if_pos ho] at h0;exact absurd h0 ho
  rw[if_neg (by rw[ho];decide)] at h0
  rw[hmN]
  by_cases hk:h.k=5∨h.k=6
  ·rw[if_pos hk]
   have hw:wm h ts.length=true:=by
    cases q:wm h ts.length with
    | true=>rfl
    | false=>unfold ownE at ho;rw[if_pos q] at ho;omega
   unfold ownE at ho
   rw[if_neg (by rw[hw];decide)] at ho
   unfold tmN
   rcases hk with e|e
   ·rw[if_pos e] at ho
    have hv:vA h.c1 h.r1 h.c1 h.r1=true:=by
     split at ho
     ·assumption
     ·omega
    have hv':=vA_bd _ _ _ _ hv
    have hvc:vC h.c1 h.r1=true:=by rw[vC_iff];omega
    have e1:shH 0 0 (Nd.mk h ts).hd=some h:=shH_id5 (h:=h) (by omega) hvc
    rw[e1];rfl
   ·rw[if_neg (show ¬h.k=5 by omega),if_pos e] at ho
    have hv:vA h.c1 h.r1 h.c2 h.r2=true:=by
     split at ho
     ·assumption
     ·omega
    have e1:shH 0 0 (Nd.mk h ts).hd=some h:=shH_id6 e hv
    rw[e1];rfl
  ·rw[if_neg hk,hmL_id ts _ h0]
theorem hmL_id:∀(ts:List Nd) (c:Bool),feL ts c=0->hmL (shH 0 0) ts=ts
 | [],_,_=>by rw[hmL]
 | t::ts,c,h0=>by
  rw[feL] at h0
  by_cases ht:t.fe c=0
  ·rw[if_neg (by rw[ht];decide)] at h0
   rw[hmL,hmN_id t c ht,hmL_id ts c h0]
  ·rw[if_pos ht] at h0;exact absurd h0 ht
end
theorem gd_chk {a:Ct} (h:Gd a) (hk:a.k=2):chk a.t=0:=by
 have h:=h.val
 unfold gv validC at h
 simp[hk] at h
 exact h.2
theorem hmC_id {a:Ct} (h:Gd a):hmC (shH 0 0) a=a:=by
 by_cases hk:a.k=2
 ·have hc:=gd_chk h hk
  unfold chk at hc
  by_cases a1:256<a.t.size
  ·rw[if_pos a1] at hc;omega
  ·rw[if_neg a1] at hc
   by_cases a2:32<a.t.dep
   ·rw[if_pos a2] at hc;omega
   ·rw[if_neg a2] at hc
    unfold hmC
    rw[hmN_id a.t false hc]
 ·exact hmC_plain _ h.val hk
theorem same_len {L M:List Cc} (hL:L.Pairwise (fun x y=>x.1≠y.1)) (hM:M.Pairwise (fun x y=>x.1≠y.1)) (h:∀x,x∈L↔x∈M):L.length=M.length:=(same_eqC hL hM h).1
theorem room_same {L M:List Cc} (hL:L.Pairwise (fun x y=>x.1≠y.1)) (hM:M.Pairwise (fun x y=>x.1≠y.1)) (h:∀x,x∈L↔x∈M) (p:Int×Int):roomB L p=roomB M p:=by
 rw[Bool.eq_iff_iff,roomB_iff,roomB_iff,same_len hL hM h]
 exact⟨fun q=>q.imp id (fun ⟨c,hc⟩=>⟨c,(h _).1 hc⟩),fun q=>q.imp id (fun ⟨c,hc⟩=>⟨c,(h _).2 hc⟩)⟩
theorem putL_same {L M:List Cc} (h:∀x,x∈L↔x∈M) (p:Int×Int) (c:Ct) (x:Cc):x∈putL L p c↔x∈putL M p c:=by
 rw[putL_mem,putL_mem,h]
theorem pts_same:∀(ys L M:List Cc),L.Pairwise (fun x y=>x.1≠y.1)->M.Pairwise (fun x y=>x.1≠y.1)->(∀x,x∈L↔x∈M) ->
  (pts L ys=none/\pts M ys=none)∨∃L' M',pts L ys=some L'/\pts M ys=some M'/\(∀x,x∈L'↔x∈M')
 | [],L,M,_,_,h=>.inr ⟨L,M,rfl,rfl,h⟩
 | y::ys,L,M,hL,hM,h=>by
  rw[pts,pts,room_same hL hM h]
  by_cases hr:roomB M y.1=true
  ·rw[if_pos hr,if_pos hr]
   exact pts_same ys _ _ (putL_once hL) (putL_once hM) (putL_same h _ _)
  ·rw[if_neg hr,if_neg hr]
   exact .inl ⟨rfl,rfl⟩
theorem strict_once {K:List Cc} (h:Strict (K.map (·.1))):K.Pairwise (fun x y=>x.1≠y.1):=by
 have h':=List.nodup_iff_pairwise_ne.1 (strict_nodup h)
 rw[List.pairwise_map] at h'
 exact h'
theorem cpY_once {A1 A2 t1 t2:Int} {K:List Cc} (h:K.Pairwise (fun x y=>x.1≠y.1)):(cpY A1 A2 t1 t2 K).Pairwise (fun x y=>x.1≠y.1):=by
 unfold cpY
 rw[List.pairwise_map]
 refine h.imp (fun {x y} hne e=>hne ?_)
 obtain⟨⟨c,s⟩,a⟩:=x
 obtain⟨⟨c',s'⟩,b⟩:=y
 simp only[Prod.mk.injEq] at e ⊢
 omega
theorem cpY_mem {A1 A2 t1 t2:Int} {K:List Cc} {y:Cc}:y∈cpY A1 A2 t1 t2 K↔∃x∈K,y=((x.1.1+t1-A1,x.1.2+t2-A2),hmC (shH (t1-A1) (t2-A2)) x.2):=by
 unfold cpY
 rw[List.mem_map]
 exact⟨fun ⟨x,h,e⟩=>⟨x,h,e.symm⟩,fun ⟨x,h,e⟩=>⟨x,h,e.symm⟩⟩
theorem inL_not {b1 b2 b3 b4:Int} {L:List Cc} {y:Cc} (hy:y∈L):y∉inL b1 b2 b3 b4 L↔inA b1 b2 b3 b4 y.1.1 y.1.2=false:=by
 constructor
 ·intro h
  cases q:inA b1 b2 b3 b4 y.1.1 y.1.2 with
  | false=>rfl
  | true=>exact absurd ((inL_iff rfl).2 ⟨hy,q⟩) h
 ·intro h q
  have:=((inL_iff rfl).1 q).2
  rw[h] at this;cases this
section
variable {L M0 K M:List Cc} {a1 a2 a3 a4 u1 u2 b3 b4:Int}
theorem copied_mem (hM0:∀y,y∈M0↔y∈L/\y∉inL u1 u2 b3 b4 L) (hKs:Strict (K.map (·.1))) (hKm:∀x,x∈K↔x∈inL a1 a2 a3 a4 L)
  (hB:b3=a3+u1-a1/\b4=a4+u2-a2) (hA:vA a1 a2 a3 a4=true) (hB':vA u1 u2 b3 b4=true)
  (hp:pts M0 (cpY a1 a2 u1 u2 K)=some M) (y:Cc) :
  y∈M↔(inA u1 u2 b3 b4 y.1.1 y.1.2=true/\∃a,((y.1.1-(u1-a1),y.1.2-(u2-a2)),a)∈L/\y.2=hmC (shH (u1-a1) (u2-a2)) a)∨(inA u1 u2 b3 b4 y.1.1 y.1.2=false/\y∈L):=by
 rw[pts_mem _ _ _ (cpY_once (strict_once hKs)) hp,cpY_mem]
 have hin:∀c s,inA a1 a2 a3 a4 c s=inA u1 u2 b3 b4 (c+u1-a1) (s+u2-a2):=fun c s=>by
  unfold inA
  rw[hA,hB',Bool.eq_iff_iff]
  simp only[Bool.and_eq_true,decide_eq_true_eq,Bool.true_and]
  omega
 constructor
 ·rintro(⟨x,hx,rfl⟩|⟨hy,hne⟩)
  ·obtain⟨⟨c,s⟩,a⟩:=x
   obtain⟨hxL,hxA⟩:=(inL_iff rfl).1 ((hKm _).1 hx)
   refine .inl ⟨?_,a,?_,rfl⟩
   ·rw[<- hin];exact hxA
   ·show ((c+u1-a1-(u1-a1),s+u2-a2-(u2-a2)),a)∈L
    rw[show c+u1-a1-(u1-a1)=c by omega,show s+u2-a2-(u2-a2)=s by omega]
    exact hxL
  ·obtain⟨h1,h2⟩:=(hM0 y).1 hy
   exact .inr ⟨(inL_not h1).1 h2,h1⟩
 ·rintro(⟨hi,a,ha,e⟩|⟨hi,hy⟩)
  ·obtain⟨⟨c,s⟩,b⟩:=y
   simp only at hi ha e
   subst e
   refine .inl ⟨((c-(u1-a1),s-(u2-a2)),a),(hKm _).2 ((inL_iff rfl).2 ⟨ha,?_⟩),?_⟩
   ·rw[hin]
    simp only
    rw[show c-(u1-a1)+u1-a1=c by omega,show s-(u2-a2)+u2-a2=s by omega]
    exact hi
   ·simp only
    rw[show c-(u1-a1)+u1-a1=c by omega,show s-(u2-a2)+u2-a2=s by omega]
  ·refine .inr ⟨(hM0 y).2 ⟨hy,(inL_not hy).2 hi⟩,?_⟩
   intro z hz e
   obtain⟨x,hx,rfl⟩:=cpY_mem.1 hz
   obtain⟨hxL,hxA⟩:=(inL_iff rfl).1 ((hKm _).1 hx)
   rw[hin] at hxA
   simp only at e
   rw[<- e] at hi
   simp only at hi
   rw[hxA] at hi
   cases hi
theorem copied_now (hL:Ok17 L) (hoM:M.Pairwise (fun x y=>x.1≠y.1))
  (hm:∀y,y∈M↔(inA u1 u2 b3 b4 y.1.1 y.1.2=true/\∃a,((y.1.1-(u1-a1),y.1.2-(u2-a2)),a)∈L/\y.2=hmC (shH (u1-a1) (u2-a2)) a)∨(inA u1 u2 b3 b4 y.1.1 y.1.2=false/\y∈L))
  (c s:Int) (was now:Ct) (hn:Rd M (c,s) now)
  (hw:if inA u1 u2 b3 b4 c s=true then Rd L (c-(u1-a1),s-(u2-a2)) was else Rd L (c,s) was) :
  now.k=was.k/\(was.k=1->csame now was=true)/\(inA u1 u2 b3 b4 c s=false->csame now was=true):=by
 by_cases q:inA u1 u2 b3 b4 c s=true
 ·rw[if_pos q] at hw
  have hf:¬inA u1 u2 b3 b4 c s=false:=by rw[q];decide
  rcases hw with hw|⟨rfl,hw⟩
  ·have h1:((c,s),hmC (shH (u1-a1) (u2-a2)) was)∈M:=(hm _).2 (.inl ⟨q,was,hw,rfl⟩)
   have e:=rd_in hoM hn h1
   subst e
   refine⟨rfl,fun hk=>?_,fun h=>absurd h hf⟩
   have hk':was.k=1:=hk
   rw[hmC_plain _ (hL.gd _ hw).val (by rw[hk'];decide)]
   exact csame_refl was
  ·have e:=rd_no hn (fun a ha=>by
    rcases(hm _).1 ha with ⟨_,b,hb,_⟩|⟨h,_⟩
    ·exact hw b hb
    ·exact hf h)
   subst e
   exact⟨rfl,fun _=>csame_refl _,fun _=>csame_refl _⟩
 ·rw[if_neg q] at hw
  have qf:inA u1 u2 b3 b4 c s=false:=by simpa using q
  rcases hw with hw|⟨rfl,hw⟩
  ·have h1:((c,s),was)∈M:=(hm _).2 (.inr ⟨qf,hw⟩)
   have e:=rd_in hoM hn h1
   subst e
   exact⟨rfl,fun _=>csame_refl _,fun _=>csame_refl _⟩
  ·have e:=rd_no hn (fun a ha=>by
    rcases(hm _).1 ha with ⟨h,_⟩|⟨_,h⟩
    ·exact q h
    ·exact hw a h)
   subst e
   exact⟨rfl,fun _=>csame_refl _,fun _=>csame_refl _⟩
end
theorem copied_self {L M0 K:List Cc} {a1 a2 a3 a4:Int} (hL:Ok17 L) (ho:L.Pairwise (fun x y=>x.1≠y.1)) (ho0:M0.Pairwise (fun x y=>x.1≠y.1)) (hM0:∀y,y∈M0↔y∈L/\y∉inL a1 a2 a3 a4 L) (hKs:Strict (K.map (·.1))) (hKm:∀x,x∈K↔x∈inL a1 a2 a3 a4 L) :
  ∃M,pts M0 (cpY a1 a2 a1 a2 K)=some M/\(∀y,y∈M↔y∈L):=by
 have e:cpY a1 a2 a1 a2 K=K:=by
  unfold cpY
  refine(List.map_congr_left (fun x hx=>?_)).trans (List.map_id K)
  obtain⟨⟨c,s⟩,a⟩:=x
  have hg:=hL.gd _ ((inL_iff rfl).1 ((hKm _).1 hx)).1
  rw[Int.sub_self,Int.sub_self,hmC_id hg,show c+a1-a1=c by omega,show s+a2-a2=s by omega]
  rfl
 rw[e]
 have hK:=strict_once hKs
 have hne:∀y∈K,∀x∈M0,y.1≠x.1:=fun y hy x hx e=>by
  obtain⟨h1,h2⟩:=(hM0 x).1 hx
  have h3:=(hKm y).1 hy
  have h4:=((inL_iff rfl).1 h3).1
  have:y=x:=once_eq' ho h4 h1 e
  exact h2 (this ▸ h3)
 have hlen:M0.length+K.length<=4096:=by
  have hnd:(M0++K).Pairwise (fun x y=>x.1≠y.1):=List.pairwise_append.2 ⟨ho0,hK,fun x hx y hy e=>hne y hy x hx e.symm⟩
  have:=same_len hnd ho (fun x=>by
   rw[List.mem_append,hM0,hKm]
   constructor
   ·rintro(h|h)
    ·exact h.1
    ·exact((inL_iff rfl).1 h).1
   ·intro h
    by_cases q:x∈inL a1 a2 a3 a4 L
    ·exact .inr q
    ·exact .inl ⟨h,q⟩)
  rw[List.length_append] at this
  have:=hL.len
  omega
 obtain⟨M,hM⟩:=pts_some K M0 hK hne hlen
 refine⟨M,hM,fun y=>?_⟩
 rw[pts_mem K M0 M hK hM,hM0,hKm]
 constructor
 ·rintro(h|h)
  ·exact((inL_iff rfl).1 h).1
  ·exact h.1.1
 ·intro h
  by_cases q:y∈inL a1 a2 a3 a4 L
  ·exact .inl q
  ·refine .inr ⟨⟨h,q⟩,fun z hz e=>?_⟩
   have h4:=((inL_iff rfl).1 ((hKm z).1 hz)).1
   have:z=y:=once_eq' ho h4 h e
   exact q (this ▸ (hKm z).1 hz)
theorem one_put {L K:List Cc} {a1 a2 u1 u2:Int} {u:Ct} (hL:Ok17 L) (ho:L.Pairwise (fun x y=>x.1≠y.1)) (hv:vC a1 a2=true) (hu:vC u1 u2=true) (hKs:Strict (K.map (·.1))) (hKm:∀x,x∈K↔x∈inL a1 a2 a1 a2 L) (hr:Rd L (a1,a2) u) :
  cpY a1 a2 u1 u2 K=if u.k=0 then [] else flY a1 a2 u1 u2 u1 u2 u:=by
 have hA:vA a1 a2 a1 a2=true:=vA_oneS hv
 have hin:∀c s,inA a1 a2 a1 a2 c s=true↔c=a1/\s=a2:=fun c s=>by
  unfold inA
  rw[hA]
  simp only[Bool.and_eq_true,decide_eq_true_eq,Bool.true_and]
  omega
 have hB:vA u1 u2 u1 u2=true:=vA_oneS hu
 have hsz:szN u1 u2 u1 u2=1:=by
  unfold szN
  rw[hB]
  unfold wdA
  simp
 have hck:cK u1 u2 u1 0=(u1,u2):=by unfold cK;simp
 have hfl:flY a1 a2 u1 u2 u1 u2 u=[((u1,u2),hmC (shH (u1-a1) (u2-a2)) u)]:=by
  unfold flY
  rw[hsz]
  show [_]=_
  simp only[hck]
 rcases hr with hr|⟨rfl,hr⟩
 ·have hk:=(hL.gd _ hr).k
  rw[if_neg hk,hfl]
  have e:K=[((a1,a2),u)]:=same_in_order hKs (by simp[Strict]) (fun x=>by
   rw[hKm,inL_iff rfl,List.mem_singleton]
   constructor
   ·rintro⟨h1,h2⟩
    obtain⟨⟨c,s⟩,b⟩:=x
    obtain⟨rfl,rfl⟩:=(hin c s).1 h2
    rw[once_eq ho h1 hr]
   ·rintro rfl
    exact⟨hr,(hin _ _).2 ⟨rfl,rfl⟩⟩)
  rw[e]
  unfold cpY
  show [_]=_
  simp only
  rw[show a1+u1-a1=u1 by omega,show a2+u2-a2=u2 by omega]
 ·rw[if_pos ct0_k]
  have e:K=[]:=List.eq_nil_iff_forall_not_mem.2 (fun x hx=>by
   obtain⟨h1,h2⟩:=(inL_iff rfl).1 ((hKm x).1 hx)
   obtain⟨⟨c,s⟩,b⟩:=x
   obtain⟨rfl,rfl⟩:=(hin c s).1 h2
   exact hr b h1)
  rw[e];rfl
end Go.Proofs.YtecjfnkakodebaaGreatDoor
namespace Go.Proofs.YtecjfnkakodebaaGreatDoor
open Go.RowKit Go.Maps
structure CpF (A:Ar4) (t:Int×Int) (L K M0:List Cc):Prop where
 m0:∀y,y∈M0↔y∈L/\y∉inL (mvTo A t).1.1 (mvTo A t).1.2 (mvTo A t).2.1 (mvTo A t).2.2 L
 once:M0.Pairwise (fun x y=>x.1≠y.1)
 ks:Strict (K.map (·.1))
 km:∀x,x∈K↔x∈inL A.1.1 A.1.2 A.2.1 A.2.2 L
inductive Cp2 (A:Ar4) (t:Int×Int) (L:List Cc) (w w':World):Value->Value->Prop
 | full (K M0:List Cc) (hF:CpF A t L K M0) (hp:pts M0 (cpY A.1.1 A.1.2 t.1 t.2 K)=none) (k:Kp w w' Nul):Cp2 A t L w w' (.pointer none) (.int .i64 41)
 | fit (K M0:List Cc) (hF:CpF A t L K M0) (M:List Cc) (hp:pts M0 (cpY A.1.1 A.1.2 t.1 t.2 K)=some M) (g2:Nat) (hg:GridIn w' (fun i=>w.heap.size<=i) g2 M) (ok:Ok17 M) (k:Kp w w' Nul):Cp2 A t L w w' (.pointer (some ⟨g2,0,none⟩)) (.int .i64 0)
theorem copy_two (g:Nat) (A:Ar4) (t:Int×Int) (L:List Cc) (w:World) (hg:GI 0 w g L) (hL:Ok17 L) (hv:VS w) (hA:Ar4.ok A=true) (hf:fits A t=true) :
  Calls Tryz.prog 16 #[.pointer (some ⟨g,0,none⟩),.agg #[.int .i64 A.1.1,.int .i64 A.1.2,.int .i64 A.2.1,.int .i64 A.2.2],.agg #[.int .i64 t.1,.int .i64 t.2]] w fun e w'=>∃v u,e=.returned (.tuple #[v,u])/\Cp2 A t L w w' v u:=by
 refine(move_copy_at g A t L w hg hL hv).mono ?_
 rintro e w' ⟨v,rfl,hR⟩
 obtain⟨K,M0,hKs,hKm,hC⟩:=hR.ok hA hf
 have hF:CpF A t L K M0:=⟨hC.mem,hC.once,hKs,hKm⟩
 cases hp:pts M0 (cpY A.1.1 A.1.2 t.1 t.2 K) with
 | none=>exact⟨_,_,congrArg _ (hC.full hp),.full K M0 hF hp hC.kp⟩
 | some M=>
  obtain⟨g2,e,h1,h2⟩:=hC.fit M hp
  exact⟨_,_,congrArg _ e,.fit K M0 hF M hp g2 h1 h2 hC.kp⟩
theorem copy_onto (g:Nat) (A:Ar4) (L:List Cc) (w:World) (hg:GI 0 w g L) (hL:Ok17 L) (hv:VS w) (hA:Ar4.ok A=true) :
  Calls Tryz.prog 16 #[.pointer (some ⟨g,0,none⟩),.agg #[.int .i64 A.1.1,.int .i64 A.1.2,.int .i64 A.2.1,.int .i64 A.2.2],.agg #[.int .i64 A.1.1,.int .i64 A.1.2]] w fun e w'=>∃g2 M,e=.returned (.tuple #[.pointer (some ⟨g2,0,none⟩),.int .i64 0])/\GI 0 w' g2 M/\Ok17 M/\M.Pairwise (fun x y=>x.1≠y.1)/\(∀y,y∈M↔y∈L)/\Kp w w' Nul:=by
 have hA':=(ar_ok _).1 hA
 have hTo:mvTo A A.1=A:=by
  unfold mvTo
  obtain⟨⟨a1,a2⟩,⟨a3,a4⟩⟩:=A
  simp only[Prod.mk.injEq]
  refine⟨trivial,?_,?_⟩ <;> omega
 have hf:fits A A.1=true:=by unfold fits;rw[hTo];exact hA
 refine(copy_two g A A.1 L w hg hL hv hA hf).mono ?_
 rintro e w' ⟨v,u,rfl,hR⟩
 have hkey:∀K M0,CpF A A.1 L K M0->∃M,pts M0 (cpY A.1.1 A.1.2 A.1.1 A.1.2 K)=some M/\∀y,y∈M↔y∈L:=fun K M0 hF=>by
  have h0:=hF.m0
  rw[hTo] at h0
  exact copied_self hL hg.once hF.once h0 hF.ks hF.km
 cases hR with
 | full K M0 hF hp k=>
  obtain⟨M,h1,_⟩:=hkey K M0 hF
  rw[h1] at hp;cases hp
 | fit K M0 hF M hp g2 h1 ok k=>
  obtain⟨M',h2,h3⟩:=hkey K M0 hF
  obtain rfl:M'=M:=Option.some.inj (h2.symm.trans hp)
  exact⟨g2,M',rfl,GridIn.mono h1 (fun _ _=>Nat.zero_le _),ok,h1.once',h3,k⟩
theorem fill_one (g:Nat) (a u:Int×Int) (L K M0:List Cc) (w:World) (hg:GI 0 w g L) (hL:Ok17 L) (hv:VS w) (ha:vC a.1 a.2=true) (hu:vC u.1 u.2=true) (hF:CpF (a,a) u L K M0) :
  Calls Tryz.prog 22 #[.pointer (some ⟨g,0,none⟩),.agg #[.int .i64 a.1,.int .i64 a.2],.agg #[.int .i64 u.1,.int .i64 u.2,.int .i64 u.1,.int .i64 u.2]] w fun e w'=>Kp w w' Nul /\
   ((pts M0 (cpY a.1 a.2 u.1 u.2 K)=none/\e=.returned (.tuple #[.pointer none,.int .i64 41])) ∨
   ∃g2 M M',pts M0 (cpY a.1 a.2 u.1 u.2 K)=some M/\e=.returned (.tuple #[.pointer (some ⟨g2,0,none⟩),.int .i64 0])/\GI 0 w' g2 M'/\Ok17 M'/\M'.Pairwise (fun x y=>x.1≠y.1)/\(∀y,y∈M'↔y∈M)):=by
 refine(move_fill_at g (u,u) a L w hg hL hv).mono ?_
 rintro e w' ⟨v,rfl,hR⟩
 refine⟨hR.kp,?_⟩
 obtain⟨c,M0',hr,hC⟩:=hR.ok (vA_oneS hu) ha
 have hTo:mvTo (a,a) u=(u,u):=by
  unfold mvTo
  simp only[Prod.mk.injEq,true_and]
  exact Prod.ext (by simp only;omega) (by simp only;omega)
 have h0:=hF.m0
 rw[hTo] at h0
 have hE:=one_put hL hg.once ha hu hF.ks hF.km hr
 have hC':CpV w w' L M0' (cpY a.1 a.2 u.1 u.2 K) u.1 u.2 u.1 u.2 v:=by
  show CpV w w' L M0' (cpY a.1 a.2 u.1 u.2 K) u.1 u.2 u.1 u.2 v
  rw[hE];exact hC
 rcases pts_same (cpY a.1 a.2 u.1 u.2 K) M0 M0' hF.once hC'.once (fun x=>by rw[h0,hC'.mem]) with ⟨h1,h2⟩|⟨M,M',h1,h2,h3⟩
 ·exact .inl ⟨h1,congrArg _ (hC'.full h2)⟩
 ·obtain⟨g2,e,h4,h5⟩:=hC'.fit M' h2
  exact .inr ⟨g2,M,M',h1,congrArg _ e,GridIn.mono h4 (fun _ _=>Nat.zero_le _),h5,h4.once',fun y=>(h3 y).symm⟩
theorem clear_two (g:Nat) (A:Ar4) (L:List Cc) (w:World) (hg:GI 0 w g L) (hL:Ok17 L) (hv:VS w) (hA:Ar4.ok A=true) :
  Calls Tryz.prog 23 #[.pointer (some ⟨g,0,none⟩),.agg #[.int .i64 A.1.1,.int .i64 A.1.2,.int .i64 A.2.1,.int .i64 A.2.2]] w fun e w'=>∃g2 M,e=.returned (.tuple #[.pointer (some ⟨g2,0,none⟩),.int .i64 0])/\GI 0 w' g2 M/\Ok17 M/\M.Pairwise (fun x y=>x.1≠y.1)/\(∀y,y∈M↔y∈L/\y∉inL A.1.1 A.1.2 A.2.1 A.2.2 L)/\Kp w w' Nul:=by
 refine(move_clear_at g A L w hg hL hv).mono ?_
 rintro e w' ⟨v,rfl,hR⟩
 obtain⟨g2,M,rfl,h1,h2,h3⟩:=hR.ok hA
 exact⟨g2,M,rfl,GridIn.mono h1 (fun _ _=>Nat.zero_le _),h2,h1.once',h3,hR.kp⟩
inductive PqJ (w':World):Value->Value->Value->Value->Prop
 | no:PqJ w' (.pointer none) (.int .i64 41) (.pointer none) (.int .i64 41)
 | yes (gp gq:Nat) (P Q:List Cc) (h1:GI 0 w' gp P) (h2:GI 0 w' gq Q) (o1:OkC P) (o2:OkC Q) (he:EqC P Q):PqJ w' (.pointer (some ⟨gp,0,none⟩)) (.int .i64 0) (.pointer (some ⟨gq,0,none⟩)) (.int .i64 0)
theorem PqJ.kp {w w':World} {a b c d:Value} (h:PqJ w a b c d) (k:Kp w w' Nul):PqJ w' a b c d:=by
 cases h with
 | no=>exact .no
 | yes gp gq P Q h1 h2 o1 o2 he=>exact .yes gp gq P Q (h1.kp k) (h2.kp k) o1 o2 he
theorem fill_pq (g:Nat) (a u:Int×Int) (L:List Cc) (w0 w:World) (pv pu:Value) (hg:GI 0 w g L) (hL:Ok17 L) (hv:VS w) (ha:vC a.1 a.2=true) (hu:vC u.1 u.2=true) (hR:Cp2 (a,a) u L w0 w pv pu) :
  Calls Tryz.prog 22 #[.pointer (some ⟨g,0,none⟩),.agg #[.int .i64 a.1,.int .i64 a.2],.agg #[.int .i64 u.1,.int .i64 u.2,.int .i64 u.1,.int .i64 u.2]] w fun e w'=>∃qv qu,e=.returned (.tuple #[qv,qu])/\PqJ w' pv pu qv qu/\Kp w w' Nul:=by
 cases hR with
 | full K M0 hF hp k=>
  refine(fill_one g a u L K M0 w hg hL hv ha hu hF).mono ?_
  rintro e w' ⟨hk,⟨_,rfl⟩|⟨g2,M,M',h1,_⟩⟩
  ·exact⟨_,_,rfl,.no,hk⟩
  ·have:=hp.symm.trans h1
   cases this
 | fit K M0 hF M hp g2 h1 ok k=>
  refine(fill_one g a u L K M0 w hg hL hv ha hu hF).mono ?_
  rintro e w' ⟨hk,⟨h2,_⟩|⟨g3,M1,M',h2,rfl,h3,h4,h5,h6⟩⟩
  ·have:=hp.symm.trans h2
   cases this
  ·obtain rfl:M=M1:=Option.some.inj (hp.symm.trans h2)
   exact⟨_,_,rfl,.yes g2 g3 M M' ((GridIn.mono h1 (fun _ _=>Nat.zero_le _)).kp hk) h3 ok.okC h4.okC (same_eqC h1.once' h5 (fun x=>(h6 x).symm)),hk⟩
def cntA (b1 b2 b3 b4:Int) (K:List Cc) (k:Nat):Nat:=((K.take k).filter (fun x=>!inA b1 b2 b3 b4 x.1.1 x.1.2)).length
theorem cntA_next {b1 b2 b3 b4:Int} {K:List Cc} {k:Nat} {x:Cc} (hx:K[k]? = some x):cntA b1 b2 b3 b4 K (k+1)=cntA b1 b2 b3 b4 K k+(if inA b1 b2 b3 b4 x.1.1 x.1.2=true then 0 else 1):=by
 unfold cntA
 rw[List.take_add_one,hx,List.filter_append,List.length_append]
 congr 1
 show ([x].filter _).length=_
 cases h:inA b1 b2 b3 b4 x.1.1 x.1.2 <;> simp[List.filter,h]
theorem cntA_all {b1 b2 b3 b4:Int} {L K U:List Cc} (hoK:K.Pairwise (fun x y=>x.1≠y.1)) (hKm:∀x,x∈K↔x∈L) (hoU:U.Pairwise (fun x y=>x.1≠y.1)) (hU:∀y,y∈U↔y∈L/\y∉inL b1 b2 b3 b4 L):cntA b1 b2 b3 b4 K K.length=U.length:=by
 unfold cntA
 rw[List.take_length]
 refine same_len (hoK.filter _) hoU (fun x=>?_)
 rw[List.mem_filter,hU,hKm]
 constructor
 ·rintro⟨h1,h2⟩
  exact⟨h1,(inL_not h1).2 (by simpa using h2)⟩
 ·rintro⟨h1,h2⟩
  exact⟨h1,by simpa using (inL_not h1).1 h2⟩
theorem cntA_le (b1 b2 b3 b4:Int) (K:List Cc) (k:Nat):cntA b1 b2 b3 b4 K k<=K.length:=by
 unfold cntA
 exact Nat.le_trans (List.length_filter_le _ _) (by rw[List.length_take];omega)
end Go.Proofs.YtecjfnkakodebaaGreatDoor
