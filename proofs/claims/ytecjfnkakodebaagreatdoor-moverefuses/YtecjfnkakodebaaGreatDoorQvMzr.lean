/- MoveRefuses: the walk. By wip/gen_mzr.py. -/
import Derived.Test.YtecjfnkakodebaaGreatDoorQvMzq
import Derived.Deep.CutRange
set_option maxRecDepth 100000
set_option maxHeartbeats 80000000
namespace Go.Proofs.YtecjfnkakodebaaGreatDoor
open Go.RowKit Go.Maps Go.Sort Go.Lib Go.Shelf
theorem nil_ptrR (g:Nat) (w:World):(binOp .eql 24 (.pointer (some ⟨g,0,none⟩)) (.pointer none)).run Tryz.prog w=.ok (.bool false) w:=by
 simp [go_sem]
theorem move_badR (g:Nat) (L:List Cc) (A:Ar4) (t:Int×Int) (w:World) (hg:GI 0 w g L) (hL:Ok17 L) (hv:VS w) (h:¬ Ar4.ok A=true) :
  Calls Tryz.prog 29 #[.pointer (some ⟨g,0,none⟩),.agg #[.int .i64 A.1.1,.int .i64 A.1.2,.int .i64 A.2.1,.int .i64 A.2.2],.agg #[.int .i64 t.1,.int .i64 t.2]] w fun e w'=>e=.returned (.tuple #[.pointer none,.int .i64 1])∧Kp w w' Nul:=by
 refine (move_at g L A t w hg hL hv).mono ?_
 rintro e w' ⟨v,u,rfl,hR⟩
 generalize hx:Value.tuple #[v,u]=x at hR
 cases hR with
 | bad _ k=>exact ⟨rfl,k⟩
 | off h1 _ _=>exact absurd h1 h
 | ok h1 _ _ _ _=>exact absurd h1 h
theorem move_offR (g:Nat) (L:List Cc) (A:Ar4) (t:Int×Int) (w:World) (hg:GI 0 w g L) (hL:Ok17 L) (hv:VS w) (h:Ar4.ok A=true) (hf:¬ fits A t=true) :
  Calls Tryz.prog 29 #[.pointer (some ⟨g,0,none⟩),.agg #[.int .i64 A.1.1,.int .i64 A.1.2,.int .i64 A.2.1,.int .i64 A.2.2],.agg #[.int .i64 t.1,.int .i64 t.2]] w fun e w'=>e=.returned (.tuple #[.pointer none,.int .i64 20])∧Kp w w' Nul:=by
 refine (move_at g L A t w hg hL hv).mono ?_
 rintro e w' ⟨v,u,rfl,hR⟩
 generalize hx:Value.tuple #[v,u]=x at hR
 cases hR with
 | bad h1 _=>exact absurd h h1
 | off _ _ k=>exact ⟨rfl,k⟩
 | ok _ h1 _ _ _=>exact absurd h1 hf
theorem fill_badR (g:Nat) (A:Ar4) (f:Int×Int) (w:World) (h:¬ Ar4.ok A=true) :
  Calls Tryz.prog 22 #[.pointer (some ⟨g,0,none⟩),.agg #[.int .i64 f.1,.int .i64 f.2],.agg #[.int .i64 A.1.1,.int .i64 A.1.2,.int .i64 A.2.1,.int .i64 A.2.2]] w fun e w'=>e=.returned (.tuple #[.pointer none,.int .i64 1])∧Kp w w' Nul:=by
 have q:=fill_bad g A f w (fun q=>absurd q h)
 rw [if_neg h] at q
 exact q
theorem fill_offR (g:Nat) (A:Ar4) (f:Int×Int) (w:World) (h:Ar4.ok A=true) (hf:¬ vC f.1 f.2=true) :
  Calls Tryz.prog 22 #[.pointer (some ⟨g,0,none⟩),.agg #[.int .i64 f.1,.int .i64 f.2],.agg #[.int .i64 A.1.1,.int .i64 A.1.2,.int .i64 A.2.1,.int .i64 A.2.2]] w fun e w'=>e=.returned (.tuple #[.pointer none,.int .i64 20])∧Kp w w' Nul:=by
 have q:=fill_bad g A f w (fun _=>hf)
 rw [if_pos h] at q
 exact q
theorem not_fits {A:Ar4} {t:Int×Int} (h:¬ vC t.1 t.2=true):¬ fits A t=true:=fun e=>h (by
 have h1:=(ar_ok _).1 (show Ar4.ok (mvTo A t)=true from e)
 unfold mvTo at h1
 simp only at h1
 rw [vC_iff];omega)
theorem fits_edge {a1 a2 a3 a4 e1 e2:Int} (h:1≤a1∧a1≤a3∧1≤a2∧a2≤a4) (h':a3≤8∧a4≤8∧a3≤a1+2∧a4≤a2+2) (he:254≤e1∧e1≤256∧4094≤e2∧e2≤4096) :
  fits ((a1,a2),(a3,a4)) (e1,e2)=(decide (e1+a3 - a1≤256) && decide (e2+a4 - a2≤4096)):=by
 rw [Bool.eq_iff_iff]
 unfold fits
 rw [ar_ok]
 unfold mvTo
 simp only [Bool.and_eq_true,decide_eq_true_eq]
 constructor
 ·intro q;omega
 ·intro q;refine ⟨?_,?_,?_,?_,?_,?_⟩ <;> omega
def ctT:Ct:=⟨1,⟨3,0,⟨#[]⟩,false,0⟩,zNd⟩
theorem ctT_gd:Gd ctT:=by
 refine ⟨?_,by decide,zNd_ok,by decide,by show zNd.size≤_;rw [zsize];decide,?_⟩
 ·have h1:bareV ctT.v=true:=by simp [bareV,ctT]
  have h2:zeroN ctT.t=true:=zeroN_z
  unfold gv
  simp [validC,validV,h1,h2]
  simp [ctT]
 ·unfold cpC ctT
  simp only [cpy_zNd]
  congr 1
theorem ok_same {L M:List Cc} (h:Ok17 L) (ho:M.Pairwise (fun x y=>x.1≠y.1)) (hm:∀ y,y∈M ↔ y∈L):Ok17 M:=
 ⟨fun x hx=>h.gd x ((hm x).1 hx),fun x hx=>h.at' x ((hm x).1 hx),by
  have:=nodup_le (M.map (·.1)) (L.map (·.1)) (List.nodup_iff_pairwise_ne.2 (List.pairwise_map.2 ho)) (fun x hx=>by
   obtain ⟨y,hy,rfl⟩:=List.mem_map.1 hx
   exact List.mem_map.2 ⟨y,(hm y).1 hy,rfl⟩)
  rw [List.length_map,List.length_map] at this
  exact Nat.le_trans this h.len⟩
theorem sm_low {w:World} {F:Nat→Prop} {g:Nat} {L:List Cc} (h:GridIn w F g L) {i:Nat} (hs:Sm w g i):F i:=by
 obtain ⟨hF,⟨hb',_⟩|⟨m,D,hb',hm',_⟩⟩:=h
 ·rcases hs with rfl|⟨e,_⟩
  ·exact hF
  ·rw [hb'] at e;simp at e
 ·rcases hs with rfl|⟨e,_⟩
  ·exact hF
  ·rw [hb'] at e
   have em:m=i:=by simpa using e
   rw [← em];exact hm'
theorem move_edge (g:Nat) (L:List Cc) (A:Ar4) (t:Int×Int) (F:Bool) (w:World) (hg:GI 0 w g L) (hL:Ok17 L) (hv:VS w) (h:Ar4.ok A=true) (hF:fits A t=F) :
  Calls Tryz.prog 29 #[.pointer (some ⟨g,0,none⟩),.agg #[.int .i64 A.1.1,.int .i64 A.1.2,.int .i64 A.2.1,.int .i64 A.2.2],.agg #[.int .i64 t.1,.int .i64 t.2]] w fun e w'=>∃ v er,e=.returned (.tuple #[v,.int .i64 er])∧(F=true→er=0)∧(F=false→er=20)∧Kp w w' Nul:=by
 refine (move_at g L A t w hg hL hv).mono ?_
 rintro e w' ⟨v,u,rfl,hR⟩
 generalize hx:Value.tuple #[v,u]=x at hR
 cases hR with
 | bad h1 _=>exact absurd h h1
 | off _ h1 k=>
  refine ⟨.pointer none,20,rfl,?_,fun _=>rfl,k⟩
  intro q
  rw [q] at hF
  exact absurd hF h1
 | ok _ h1 g2 _ hb=>
  refine ⟨.pointer (some ⟨g2,0,none⟩),0,rfl,fun _=>rfl,?_,hb.kp⟩
  intro q
  rw [h1,q] at hF
  cases hF
theorem fill_much (g:Nat) (L:List Cc) (w:World) (hg:GI 0 w g L) (hL:Ok17 L) (hv:VS w) (u:Ct) (hu:((1,1),u)∈L) (hk:u.k≠0) :
  Calls Tryz.prog 22 #[.pointer (some ⟨g,0,none⟩),.agg #[.int .i64 1,.int .i64 1],.agg #[.int .i64 3,.int .i64 1,.int .i64 4,.int .i64 4096]] w fun e w'=>e=.returned (.tuple #[.pointer none,.int .i64 41])∧Kp w w' Nul:=by
 refine (move_fill_at g ((3,1),(4,4096)) (1,1) L w hg hL hv).mono ?_
 rintro e w' ⟨v,rfl,hR⟩
 obtain ⟨u',M0,hr,hC⟩:=hR.ok (by decide) (by decide)
 have e1:u'=u:=rd_in hg.once hr hu
 subst e1
 rw [if_neg hk] at hC
 refine ⟨congrArg _ (hC.full ?_),hR.kp⟩
 cases hp:pts M0 (flY (1,1).1 (1,1).2 ((3,1),(4,4096)).1.1 ((3,1),(4,4096)).1.2 ((3,1),(4,4096)).2.1 ((3,1),(4,4096)).2.2 u') with
 | none=>rfl
 | some M=>
  exfalso
  obtain ⟨g2,_,hgi,hok⟩:=hC.fit M hp
  have hsz:szN 3 1 4 4096=8192:=by decide
  have hone:(flY 1 1 3 1 4 4096 u').Pairwise (fun x y=>x.1≠y.1):=by
   unfold flY
   rw [List.pairwise_map]
   exact (List.nodup_iff_pairwise_ne.1 List.nodup_range).imp (fun hne e=>hne (cK_inj e))
  have hm:=pts_mem _ _ _ hone hp
  have:=fill_count (M:=M) (k:=szN 3 1 4 4096) (m1:=3) (m2:=1) (m3:=4) (fun j hj=>⟨_,(hm _).2 (.inl (List.mem_of_getElem? (flY_get hj rfl)))⟩)
  have:=hok.len
  omega
theorem rows_bad (at' n:Int) (g:Nat) (L:List Cc) (w:World) (hg:GI 0 w g L) (hL:Ok17 L) (hv:VS w) (h:¬ lnOk false at' n) :
  Calls Tryz.prog 30 #[.pointer (some ⟨g,0,none⟩),.int .i64 at',.int .i64 n] w fun e w'=>e=.returned (.tuple #[.pointer none,.int .i64 1])∧Kp w w' Nul:=by
 refine (rows_at at' n g L w hg hL hv).mono ?_
 rintro e w' ⟨v,rfl,hR⟩
 cases hR with
 | bad _ k=>exact ⟨rfl,k⟩
 | off h1 _ _ _=>exact absurd h1 h
 | ok h1 _ _ _ _=>exact absurd h1 h
theorem cols_bad (at' n:Int) (g:Nat) (L:List Cc) (w:World) (hg:GI 0 w g L) (hL:Ok17 L) (hv:VS w) (h:¬ lnOk true at' n) :
  Calls Tryz.prog 31 #[.pointer (some ⟨g,0,none⟩),.int .i64 at',.int .i64 n] w fun e w'=>e=.returned (.tuple #[.pointer none,.int .i64 1])∧Kp w w' Nul:=by
 refine (cols_at at' n g L w hg hL hv).mono ?_
 rintro e w' ⟨v,rfl,hR⟩
 cases hR with
 | bad _ k=>exact ⟨rfl,k⟩
 | off h1 _ _ _=>exact absurd h1 h
 | ok h1 _ _ _ _=>exact absurd h1 h
theorem pkf_lt (c m:Int) (h:1≤m):pkf c m < m.toNat:=by have:=(pkf_val c m h).2;omega
theorem bad_pick (W:World) (b:Nat) (hB:Blk W b [.int .i64 0,.int .i64 0,.int .i64 0,.int .i64 0,.int .i64 2,.int .i64 2,.int .i64 1,.int .i64 2,.int .i64 2,.int .i64 2,.int .i64 2,.int .i64 1,.int .i64 0,.int .i64 1,.int .i64 3,.int .i64 3,.int .i64 1,.int .i64 1,.int .i64 257,.int .i64 1,.int .i64 1,.int .i64 1,.int .i64 1,.int .i64 4097] 34) (k:Nat) (hk:k < 6):∃ n1 n2 n3 n4:Int,W.rangeAt b (k * 4) [.int .i64 n1,.int .i64 n2,.int .i64 n3,.int .i64 n4] ∧ ¬ Ar4.ok ((n1,n2),(n3,n4))=true:=by
 have h:k=0∨k=1∨k=2∨k=3∨k=4∨k=5:=by omega
 rcases h with rfl|rfl|rfl|rfl|rfl|rfl
 ·exact ⟨0,0,0,0,rangeAt_mid (pre:=[]) (l:=[.int .i64 0,.int .i64 0,.int .i64 0,.int .i64 0]) (post:=[.int .i64 2,.int .i64 2,.int .i64 1,.int .i64 2,.int .i64 2,.int .i64 2,.int .i64 2,.int .i64 1,.int .i64 0,.int .i64 1,.int .i64 3,.int .i64 3,.int .i64 1,.int .i64 1,.int .i64 257,.int .i64 1,.int .i64 1,.int .i64 1,.int .i64 1,.int .i64 4097]) hB,by decide⟩
 ·exact ⟨2,2,1,2,rangeAt_mid (pre:=[.int .i64 0,.int .i64 0,.int .i64 0,.int .i64 0]) (l:=[.int .i64 2,.int .i64 2,.int .i64 1,.int .i64 2]) (post:=[.int .i64 2,.int .i64 2,.int .i64 2,.int .i64 1,.int .i64 0,.int .i64 1,.int .i64 3,.int .i64 3,.int .i64 1,.int .i64 1,.int .i64 257,.int .i64 1,.int .i64 1,.int .i64 1,.int .i64 1,.int .i64 4097]) hB,by decide⟩
 ·exact ⟨2,2,2,1,rangeAt_mid (pre:=[.int .i64 0,.int .i64 0,.int .i64 0,.int .i64 0,.int .i64 2,.int .i64 2,.int .i64 1,.int .i64 2]) (l:=[.int .i64 2,.int .i64 2,.int .i64 2,.int .i64 1]) (post:=[.int .i64 0,.int .i64 1,.int .i64 3,.int .i64 3,.int .i64 1,.int .i64 1,.int .i64 257,.int .i64 1,.int .i64 1,.int .i64 1,.int .i64 1,.int .i64 4097]) hB,by decide⟩
 ·exact ⟨0,1,3,3,rangeAt_mid (pre:=[.int .i64 0,.int .i64 0,.int .i64 0,.int .i64 0,.int .i64 2,.int .i64 2,.int .i64 1,.int .i64 2,.int .i64 2,.int .i64 2,.int .i64 2,.int .i64 1]) (l:=[.int .i64 0,.int .i64 1,.int .i64 3,.int .i64 3]) (post:=[.int .i64 1,.int .i64 1,.int .i64 257,.int .i64 1,.int .i64 1,.int .i64 1,.int .i64 1,.int .i64 4097]) hB,by decide⟩
 ·exact ⟨1,1,257,1,rangeAt_mid (pre:=[.int .i64 0,.int .i64 0,.int .i64 0,.int .i64 0,.int .i64 2,.int .i64 2,.int .i64 1,.int .i64 2,.int .i64 2,.int .i64 2,.int .i64 2,.int .i64 1,.int .i64 0,.int .i64 1,.int .i64 3,.int .i64 3]) (l:=[.int .i64 1,.int .i64 1,.int .i64 257,.int .i64 1]) (post:=[.int .i64 1,.int .i64 1,.int .i64 1,.int .i64 4097]) hB,by decide⟩
 ·exact ⟨1,1,1,4097,rangeAt_mid (pre:=[.int .i64 0,.int .i64 0,.int .i64 0,.int .i64 0,.int .i64 2,.int .i64 2,.int .i64 1,.int .i64 2,.int .i64 2,.int .i64 2,.int .i64 2,.int .i64 1,.int .i64 0,.int .i64 1,.int .i64 3,.int .i64 3,.int .i64 1,.int .i64 1,.int .i64 257,.int .i64 1]) (l:=[.int .i64 1,.int .i64 1,.int .i64 1,.int .i64 4097]) (post:=[]) hB,by decide⟩
theorem none_pick (W:World) (b:Nat) (hB:Blk W b [.int .i64 0,.int .i64 0,.int .i64 257,.int .i64 1,.int .i64 1,.int .i64 4097,.int .i64 0,.int .i64 1,.int .i64 (-1),.int .i64 1,.int .i64 4611686018427387904,.int .i64 4611686018427387904] 32) (k:Nat) (hk:k < 6):∃ n1 n2:Int,W.rangeAt b (k * 2) [.int .i64 n1,.int .i64 n2] ∧ ¬ vC n1 n2=true:=by
 have h:k=0∨k=1∨k=2∨k=3∨k=4∨k=5:=by omega
 rcases h with rfl|rfl|rfl|rfl|rfl|rfl
 ·exact ⟨0,0,rangeAt_mid (pre:=[]) (l:=[.int .i64 0,.int .i64 0]) (post:=[.int .i64 257,.int .i64 1,.int .i64 1,.int .i64 4097,.int .i64 0,.int .i64 1,.int .i64 (-1),.int .i64 1,.int .i64 4611686018427387904,.int .i64 4611686018427387904]) hB,by decide⟩
 ·exact ⟨257,1,rangeAt_mid (pre:=[.int .i64 0,.int .i64 0]) (l:=[.int .i64 257,.int .i64 1]) (post:=[.int .i64 1,.int .i64 4097,.int .i64 0,.int .i64 1,.int .i64 (-1),.int .i64 1,.int .i64 4611686018427387904,.int .i64 4611686018427387904]) hB,by decide⟩
 ·exact ⟨1,4097,rangeAt_mid (pre:=[.int .i64 0,.int .i64 0,.int .i64 257,.int .i64 1]) (l:=[.int .i64 1,.int .i64 4097]) (post:=[.int .i64 0,.int .i64 1,.int .i64 (-1),.int .i64 1,.int .i64 4611686018427387904,.int .i64 4611686018427387904]) hB,by decide⟩
 ·exact ⟨0,1,rangeAt_mid (pre:=[.int .i64 0,.int .i64 0,.int .i64 257,.int .i64 1,.int .i64 1,.int .i64 4097]) (l:=[.int .i64 0,.int .i64 1]) (post:=[.int .i64 (-1),.int .i64 1,.int .i64 4611686018427387904,.int .i64 4611686018427387904]) hB,by decide⟩
 ·exact ⟨(-1),1,rangeAt_mid (pre:=[.int .i64 0,.int .i64 0,.int .i64 257,.int .i64 1,.int .i64 1,.int .i64 4097,.int .i64 0,.int .i64 1]) (l:=[.int .i64 (-1),.int .i64 1]) (post:=[.int .i64 4611686018427387904,.int .i64 4611686018427387904]) hB,by decide⟩
 ·exact ⟨4611686018427387904,4611686018427387904,rangeAt_mid (pre:=[.int .i64 0,.int .i64 0,.int .i64 257,.int .i64 1,.int .i64 1,.int .i64 4097,.int .i64 0,.int .i64 1,.int .i64 (-1),.int .i64 1]) (l:=[.int .i64 4611686018427387904,.int .i64 4611686018427387904]) (post:=[]) hB,by decide⟩
theorem refuses22 (vl:Value) (xl:List (Cc×Value)) (x0 x1 x2 f1 f2 g1 g2 t1 t2:Int) (w:World) (hl:PutsIn w vl xl) (h0:I64 x1) (h00:I64 x2) (h1:I64 f1) (h2:I64 f2) (h3:I64 g1) (h4:I64 g2) (h5:I64 t1) (h6:I64 t2) (hv:VS w) :
  Calls Tryz.prog 6 #[vl,.agg #[.int .i64 x0,.int .i64 x1,.int .i64 x2,.int .i64 f1,.int .i64 f2,.int .i64 g1,.int .i64 g2,.int .i64 t1,.int .i64 t2]] w fun e w'=>e=.returned (.bool true)∧Kp w w' Nul:=by
 have HMade:Hid (∀ wq,Kp w wq Nul→Calls Tryz.prog 13 #[vl] wq fun e w'=>∃ g L,e=.returned (.pointer (some ⟨g,0,none⟩))∧GI wq.heap.size w' g L∧Ok17 L∧Kp wq w' Nul):=fun wq k=>made22 vl xl wq (hl.kp k) (hv.kp k)
 have HKn:Hid (∀ wq,Kp w wq Nul→Calls Tryz.prog 8 #[] wq fun e w'=>e=.returned (.bool true)∧Kp wq w' Nul):=fun wq k=>known22 wq (hv.kp k)
 have HSm:Hid (∀ wq,Calls Tryz.prog 14 #[.agg #[.int .i64 x0,.int .i64 x1,.int .i64 x2,.int .i64 f1,.int .i64 f2,.int .i64 g1,.int .i64 g2,.int .i64 t1,.int .i64 t2]] wq fun e w'=>∃ (A:Ar4) (t:Int×Int),e=.returned (.tuple #[.agg #[.int .i64 A.1.1,.int .i64 A.1.2,.int .i64 A.2.1,.int .i64 A.2.2],.agg #[.int .i64 t.1,.int .i64 t.2]])∧Ar4.ok A=true∧(A.2.1≤8∧A.2.2≤8∧A.2.1≤A.1.1+2∧A.2.2≤A.1.2+2)∧(1≤t.1∧t.1≤7∧1≤t.2∧t.2≤7)∧Kp wq w' Nul):=fun wq=>small22 x0 x1 x2 f1 f2 g1 g2 t1 t2 wq h1 h2 h3 h4 h5 h6
 have HAt:Hid (∀ x y w,Calls Tryz.prog 18 #[.int .i64 x,.int .i64 y] w fun e w'=>e=.returned (.agg #[.int .i64 x,.int .i64 y])∧Kp w w' Nul):=at22
 have HPk1:Hid (∀ m w,1≤m→Calls Tryz.prog 28 #[.int .i64 x1,.int .i64 m] w fun e w'=>e=.returned (.int .i64 (pkf x1 m))∧w'=w):=fun m w h=>pick22 x1 m h0 h w
 have HPk2:Hid (∀ m w,1≤m→Calls Tryz.prog 28 #[.int .i64 x2,.int .i64 m] w fun e w'=>e=.returned (.int .i64 (pkf x2 m))∧w'=w):=fun m w h=>pick22 x2 m h00 h w
 have HPk3:Hid (∀ m w,1≤m→Calls Tryz.prog 28 #[.int .i64 t1,.int .i64 m] w fun e w'=>e=.returned (.int .i64 (pkf t1 m))∧w'=w):=fun m w h=>pick22 t1 m h5 h w
 have HPk4:Hid (∀ m w,1≤m→Calls Tryz.prog 28 #[.int .i64 t2,.int .i64 m] w fun e w'=>e=.returned (.int .i64 (pkf t2 m))∧w'=w):=fun m w h=>pick22 t2 m h6 h w
 have HV:Hid (VS w):=hv
 obtain ⟨W0,hW0⟩:∃ W0,w.alloc (.cells #[.int .i64 x0,.int .i64 x1,.int .i64 x2,.int .i64 f1,.int .i64 f2,.int .i64 g1,.int .i64 g2,.int .i64 t1,.int .i64 t2] 36)=W0:=⟨_,rfl⟩
 have HW0:Hid (w.alloc (.cells #[.int .i64 x0,.int .i64 x1,.int .i64 x2,.int .i64 f1,.int .i64 f2,.int .i64 g1,.int .i64 g2,.int .i64 t1,.int .i64 t2] 36)=W0):=hW0
 have HK0:Hid (Kp w W0 Nul):=by show Kp _ _ _;rw [← hW0];exact (Kp.refl w Nul).alloc _
 have HB0:Hid (∀ wq,Kp W0 wq Nul→Blk wq w.heap.size [.int .i64 x0,.int .i64 x1,.int .i64 x2,.int .i64 f1,.int .i64 f2,.int .i64 g1,.int .i64 g2,.int .i64 t1,.int .i64 t2] 36):=fun wq k=>by
  have:Blk W0 w.heap.size [.int .i64 x0,.int .i64 x1,.int .i64 x2,.int .i64 f1,.int .i64 f2,.int .i64 g1,.int .i64 g2,.int .i64 t1,.int .i64 t2] 36:=by rw [← hW0];exact Blk.new w [.int .i64 x0,.int .i64 x1,.int .i64 x2,.int .i64 f1,.int .i64 f2,.int .i64 g1,.int .i64 g2,.int .i64 t1,.int .i64 t2] _
  exact this.kp k (fun x=>x)
 clear hl h0 h00 h1 h2 h3 h4 h5 h6 hv hW0
 go_enter Tryz.func6,Tryz.ntmps6
 go_wp2_with (first|(rw [HW0.out])|fail)
 refine (HMade.out W0 HK0.out).mono ?_
 rintro e w1 ⟨g,L,rfl,hg1,hL,hk1⟩
 have HOn:Hid (L.Pairwise (fun x y=>x.1≠y.1)):=hg1.once
 have HOk:Hid (Ok17 L):=hL
 have HG:Hid (∀ wq,Kp w1 wq Nul→GI 0 wq g L):=fun wq k=>(GridIn.mono hg1 (fun _ _=>Nat.zero_le _)).kp k
 have K1:Hid (Kp W0 w1 Nul):=hk1
 clear hg1 hL hk1 HMade HW0
 have hnp:=nil_ptrR
 go_wp2_with fail
 refine (HKn.out w1 (HK0.out.trans K1.out)).mono ?_
 rintro e w2 ⟨rfl,hk2⟩
 have K2:Hid (Kp w1 w2 Nul):=hk2
 clear hk2 HKn
 go_wp2_with fail
 refine (clone_at g L w2 (HG.out w2 K2.out) HOk.out).mono ?_
 rintro e w3 ⟨Lw,rfl,hgw,hmw,hk3⟩
 have HGw:Hid (∀ wq,Kp w3 wq Nul→GI 0 wq w2.heap.size Lw):=fun wq k=>(GridIn.mono hgw (fun _ _=>Nat.zero_le _)).kp k
 have HMw:Hid (∀ y,y∈Lw ↔ y∈L):=hmw
 have HOw:Hid (Lw.Pairwise (fun x y=>x.1≠y.1)):=hgw.once'
 have K3:Hid (Kp w1 w3 Nul):=K2.out.trans hk3
 have HXw:=HB0.out w3 (K1.out.trans K3.out)
 have m0:=HXw.cell (i:=0) rfl
 have m1:=HXw.cell (i:=1) rfl
 have m2:=HXw.cell (i:=2) rfl
 have m3:=HXw.cell (i:=3) rfl
 have m4:=HXw.cell (i:=4) rfl
 have m5:=HXw.cell (i:=5) rfl
 have m6:=HXw.cell (i:=6) rfl
 have m7:=HXw.cell (i:=7) rfl
 have m8:=HXw.cell (i:=8) rfl
 clear hgw hmw hk3
 go_wp2_with fail
 clear m0 m1 m2 m3 m4 m5 m6 m7 m8 HXw
 refine (HSm.out w3).mono ?_
 rintro e w4 ⟨⟨⟨a1,a2⟩,⟨a3,a4⟩⟩,⟨u1,u2⟩,rfl,hAok,hAb,htb,hk4⟩
 have hAo:=(ar_ok _).1 hAok
 simp only at hAb htb hAo
 have HF:Hid ((1≤a1∧a1≤a3∧1≤a2∧a2≤a4)∧(a3≤8∧a4≤8∧a3≤a1+2∧a4≤a2+2)∧(1≤u1∧u1≤7∧1≤u2∧u2≤7)):=⟨by omega,hAb,htb⟩
 have HAok:Hid (Ar4.ok ((a1,a2),(a3,a4))=true):=hAok
 have K4:Hid (Kp w3 w4 Nul):=hk4
 clear hk4 hAok hAb htb hAo HSm
 simp only
 obtain ⟨W5,hW5⟩:∃ W5,(w4.alloc (.cells #[.int .i64 a1,.int .i64 a2,.int .i64 a3,.int .i64 a4] 34)).alloc (.cells #[.int .i64 u1,.int .i64 u2] 32)=W5:=⟨_,rfl⟩
 have HW5:Hid ((w4.alloc (.cells #[.int .i64 a1,.int .i64 a2,.int .i64 a3,.int .i64 a4] 34)).alloc (.cells #[.int .i64 u1,.int .i64 u2] 32)=W5):=hW5
 have k45:Kp w4 W5 Nul:=by rw [← hW5];exact ((Kp.refl w4 Nul).alloc _).alloc _
 have HC7:Hid (∀ wq,Kp W5 wq Nul→Blk wq w4.heap.size [.int .i64 a1,.int .i64 a2,.int .i64 a3,.int .i64 a4] 34):=fun wq k=>by
  have:Blk W5 w4.heap.size [.int .i64 a1,.int .i64 a2,.int .i64 a3,.int .i64 a4] 34:=by rw [← hW5];exact (Blk.new w4 [.int .i64 a1,.int .i64 a2,.int .i64 a3,.int .i64 a4] _).alloc _
  exact this.kp k (fun x=>x)
 have HC8:Hid (∀ wq,Kp W5 wq Nul→Blk wq (w4.heap.size+1) [.int .i64 u1,.int .i64 u2] 32):=fun wq k=>by
  have:Blk W5 (w4.heap.size+1) [.int .i64 u1,.int .i64 u2] 32:=by rw [← hW5];exact blkS (by simp) [.int .i64 u1,.int .i64 u2] _
  exact this.kp k (fun x=>x)
 have K5:Hid (Kp w3 W5 Nul):=K4.out.trans k45
 clear hW5 k45
 go_wp2_with (first|(rw [HW5.out])|fail)
 refine (HAt.out 2 2 _).mono ?_
 rintro e sa0 ⟨rfl,hk⟩
 have Ksa0:Hid (Kp W5 sa0 Nul):=(Kp.refl W5 Nul).trans hk
 clear hk
 go_wp2_with fail
 refine (HAt.out 1 2 _).mono ?_
 rintro e sa1 ⟨rfl,hk⟩
 have Ksa1:Hid (Kp W5 sa1 Nul):=Ksa0.out.trans hk
 clear hk
 go_wp2_with fail
 refine (HAt.out 2 2 _).mono ?_
 rintro e sa2 ⟨rfl,hk⟩
 have Ksa2:Hid (Kp W5 sa2 Nul):=Ksa1.out.trans hk
 clear hk
 go_wp2_with fail
 refine (HAt.out 2 1 _).mono ?_
 rintro e sa3 ⟨rfl,hk⟩
 have Ksa3:Hid (Kp W5 sa3 Nul):=Ksa2.out.trans hk
 clear hk
 go_wp2_with fail
 refine (HAt.out 0 1 _).mono ?_
 rintro e sa4 ⟨rfl,hk⟩
 have Ksa4:Hid (Kp W5 sa4 Nul):=Ksa3.out.trans hk
 clear hk
 go_wp2_with fail
 refine (HAt.out 3 3 _).mono ?_
 rintro e sa5 ⟨rfl,hk⟩
 have Ksa5:Hid (Kp W5 sa5 Nul):=Ksa4.out.trans hk
 clear hk
 go_wp2_with fail
 refine (HAt.out 1 1 _).mono ?_
 rintro e sa6 ⟨rfl,hk⟩
 have Ksa6:Hid (Kp W5 sa6 Nul):=Ksa5.out.trans hk
 clear hk
 go_wp2_with fail
 refine (HAt.out 257 1 _).mono ?_
 rintro e sa7 ⟨rfl,hk⟩
 have Ksa7:Hid (Kp W5 sa7 Nul):=Ksa6.out.trans hk
 clear hk
 go_wp2_with fail
 refine (HAt.out 1 1 _).mono ?_
 rintro e sa8 ⟨rfl,hk⟩
 have Ksa8:Hid (Kp W5 sa8 Nul):=Ksa7.out.trans hk
 clear hk
 go_wp2_with fail
 refine (HAt.out 1 4097 _).mono ?_
 rintro e sa9 ⟨rfl,hk⟩
 have Ksa9:Hid (Kp W5 sa9 Nul):=Ksa8.out.trans hk
 clear hk
 obtain ⟨W6,hW6⟩:∃ W6,sa9.alloc (.cells #[.int .i64 0,.int .i64 0,.int .i64 0,.int .i64 0,.int .i64 2,.int .i64 2,.int .i64 1,.int .i64 2,.int .i64 2,.int .i64 2,.int .i64 2,.int .i64 1,.int .i64 0,.int .i64 1,.int .i64 3,.int .i64 3,.int .i64 1,.int .i64 1,.int .i64 257,.int .i64 1,.int .i64 1,.int .i64 1,.int .i64 1,.int .i64 4097] 34)=W6:=⟨_,rfl⟩
 have HW6:Hid (sa9.alloc (.cells #[.int .i64 0,.int .i64 0,.int .i64 0,.int .i64 0,.int .i64 2,.int .i64 2,.int .i64 1,.int .i64 2,.int .i64 2,.int .i64 2,.int .i64 2,.int .i64 1,.int .i64 0,.int .i64 1,.int .i64 3,.int .i64 3,.int .i64 1,.int .i64 1,.int .i64 257,.int .i64 1,.int .i64 1,.int .i64 1,.int .i64 1,.int .i64 4097] 34)=W6):=hW6
 have K6:Hid (Kp W5 W6 Nul):=by show Kp _ _ _;rw [← hW6];exact Ksa9.out.alloc _
 have hk2:Kp w3 W6 Nul:=K5.out.trans K6.out
 have m2:W6.cell? ⟨w.heap.size,2,none⟩=some (.int .i64 x2):=(HB0.out W6 (K1.out.trans (K3.out.trans hk2))).cell rfl
 have HN:Hid (∃ n1 n2 n3 n4:Int,W6.rangeAt sa9.heap.size (pkf x2 6 * 4) [.int .i64 n1,.int .i64 n2,.int .i64 n3,.int .i64 n4] ∧ ¬ Ar4.ok ((n1,n2),(n3,n4))=true):=bad_pick _ _ (by rw [← hW6];exact Blk.new sa9 [.int .i64 0,.int .i64 0,.int .i64 0,.int .i64 0,.int .i64 2,.int .i64 2,.int .i64 1,.int .i64 2,.int .i64 2,.int .i64 2,.int .i64 2,.int .i64 1,.int .i64 0,.int .i64 1,.int .i64 3,.int .i64 3,.int .i64 1,.int .i64 1,.int .i64 257,.int .i64 1,.int .i64 1,.int .i64 1,.int .i64 1,.int .i64 4097] 34) _ (pkf_lt x2 6 (by decide))
 obtain ⟨n1,n2,n3,n4,hr6,hno⟩:=HN.out
 have HR6:Hid (W6.rangeAt sa9.heap.size (pkf x2 6 * 4) [.int .i64 n1,.int .i64 n2,.int .i64 n3,.int .i64 n4]):=hr6
 have HNo:Hid (¬ Ar4.ok ((n1,n2),(n3,n4))=true):=hno
 have hp6:(pkf x2 6:Int) < 6:=by have:=pkf_lt x2 6 (by decide);omega
 clear hW6 hk2 hr6 hno HN
 go_wp2_with (first|(rw [HW6.out])|fail)
 refine (HPk2.out 6 _ (by decide)).mono ?_
 rintro e v6 ⟨rfl,rfl⟩
 clear m2 HW6
 go_wp2_with (first
  | (refine wpList_load_mid rfl 34 (.tmp 80) rfl sa9.heap.size (pkf x2 6 * 4) rfl [.int .i64 n1,.int .i64 n2,.int .i64 n3,.int .i64 n4] _ HR6.out Tryz.underlying34 rfl infoArea ?_)
  | fail)
 clear hp6 HR6
 obtain ⟨W7,hW7⟩:∃ W7,v6.alloc (.cells #[.int .i64 n1,.int .i64 n2,.int .i64 n3,.int .i64 n4] 34)=W7:=⟨_,rfl⟩
 have HW7:Hid (v6.alloc (.cells #[.int .i64 n1,.int .i64 n2,.int .i64 n3,.int .i64 n4] 34)=W7):=hW7
 have K7:Hid (Kp W5 W7 Nul):=by show Kp _ _ _;rw [← hW7];exact K6.out.alloc _
 have HC10:Hid (∀ wq,Kp W7 wq Nul→Blk wq v6.heap.size [.int .i64 n1,.int .i64 n2,.int .i64 n3,.int .i64 n4] 34):=fun wq k=>by
  have:Blk W7 v6.heap.size [.int .i64 n1,.int .i64 n2,.int .i64 n3,.int .i64 n4] 34:=by rw [← hW7];exact Blk.new v6 _ _
  exact this.kp k (fun x=>x)
 clear hW7
 try rw [HW7.out]
 refine (HAt.out 257 1 _).mono ?_
 rintro e sb0 ⟨rfl,hk⟩
 have Ksb0:Hid (Kp W7 sb0 Nul):=(Kp.refl W7 Nul).trans hk
 clear hk
 go_wp2_with fail
 refine (HAt.out 1 4097 _).mono ?_
 rintro e sb1 ⟨rfl,hk⟩
 have Ksb1:Hid (Kp W7 sb1 Nul):=Ksb0.out.trans hk
 clear hk
 go_wp2_with fail
 refine (HAt.out 0 1 _).mono ?_
 rintro e sb2 ⟨rfl,hk⟩
 have Ksb2:Hid (Kp W7 sb2 Nul):=Ksb1.out.trans hk
 clear hk
 go_wp2_with fail
 refine (HAt.out (-1) 1 _).mono ?_
 rintro e sb3 ⟨rfl,hk⟩
 have Ksb3:Hid (Kp W7 sb3 Nul):=Ksb2.out.trans hk
 clear hk
 go_wp2_with fail
 refine (HAt.out 4611686018427387904 4611686018427387904 _).mono ?_
 rintro e sb4 ⟨rfl,hk⟩
 have Ksb4:Hid (Kp W7 sb4 Nul):=Ksb3.out.trans hk
 clear hk
 obtain ⟨W8,hW8⟩:∃ W8,sb4.alloc (.cells #[.int .i64 0,.int .i64 0,.int .i64 257,.int .i64 1,.int .i64 1,.int .i64 4097,.int .i64 0,.int .i64 1,.int .i64 (-1),.int .i64 1,.int .i64 4611686018427387904,.int .i64 4611686018427387904] 32)=W8:=⟨_,rfl⟩
 have HW8:Hid (sb4.alloc (.cells #[.int .i64 0,.int .i64 0,.int .i64 257,.int .i64 1,.int .i64 1,.int .i64 4097,.int .i64 0,.int .i64 1,.int .i64 (-1),.int .i64 1,.int .i64 4611686018427387904,.int .i64 4611686018427387904] 32)=W8):=hW8
 have K8:Hid (Kp W7 W8 Nul):=by show Kp _ _ _;rw [← hW8];exact Ksb4.out.alloc _
 have m1:W8.cell? ⟨w.heap.size,1,none⟩=some (.int .i64 x1):=(HB0.out W8 (K1.out.trans (K3.out.trans (K5.out.trans (K7.out.trans K8.out))))).cell rfl
 have HN:Hid (∃ p1 p2:Int,W8.rangeAt sb4.heap.size (pkf x1 6 * 2) [.int .i64 p1,.int .i64 p2] ∧ ¬ vC p1 p2=true):=none_pick _ _ (by rw [← hW8];exact Blk.new sb4 [.int .i64 0,.int .i64 0,.int .i64 257,.int .i64 1,.int .i64 1,.int .i64 4097,.int .i64 0,.int .i64 1,.int .i64 (-1),.int .i64 1,.int .i64 4611686018427387904,.int .i64 4611686018427387904] 32) _ (pkf_lt x1 6 (by decide))
 obtain ⟨p1,p2,hr8,hnc⟩:=HN.out
 have HR8:Hid (W8.rangeAt sb4.heap.size (pkf x1 6 * 2) [.int .i64 p1,.int .i64 p2]):=hr8
 have HNc:Hid (¬ vC p1 p2=true):=hnc
 have hp8:(pkf x1 6:Int) < 6:=by have:=pkf_lt x1 6 (by decide);omega
 clear hW8 hr8 hnc HN
 go_wp2_with (first|(rw [HW8.out])|fail)
 refine (HPk1.out 6 _ (by decide)).mono ?_
 rintro e v9 ⟨rfl,rfl⟩
 clear m1 HW8
 obtain ⟨W9,hW9⟩:∃ W9,v9.alloc (.cells #[.int .i64 p1,.int .i64 p2] 32)=W9:=⟨_,rfl⟩
 have HW9:Hid (v9.alloc (.cells #[.int .i64 p1,.int .i64 p2] 32)=W9):=hW9
 have k89:Kp v9 W9 Nul:=by rw [← hW9];exact (Kp.refl _ _).alloc _
 have k39:Kp w3 W9 Nul:=((K5.out.trans K7.out).trans K8.out).trans k89
 have LA:Hid (∀ X,Kp W9 X Nul→Blk X w4.heap.size [.int .i64 a1,.int .i64 a2,.int .i64 a3,.int .i64 a4] 34):=fun X k=>HC7.out X (((K7.out.trans K8.out).trans k89).trans k)
 have LT:Hid (∀ X,Kp W9 X Nul→Blk X (w4.heap.size+1) [.int .i64 u1,.int .i64 u2] 32):=fun X k=>HC8.out X (((K7.out.trans K8.out).trans k89).trans k)
 have LN:Hid (∀ X,Kp W9 X Nul→Blk X v6.heap.size [.int .i64 n1,.int .i64 n2,.int .i64 n3,.int .i64 n4] 34):=fun X k=>HC10.out X ((K8.out.trans k89).trans k)
 have LP:Hid (∀ X,Kp W9 X Nul→Blk X v9.heap.size [.int .i64 p1,.int .i64 p2] 32):=fun X k=>by
  have:Blk W9 v9.heap.size [.int .i64 p1,.int .i64 p2] 32:=by rw [← hW9];exact Blk.new v9 _ _
  exact this.kp k (fun x=>x)
 have LX:Hid (∀ X,Kp W9 X Nul→Blk X w.heap.size [.int .i64 x0,.int .i64 x1,.int .i64 x2,.int .i64 f1,.int .i64 f2,.int .i64 g1,.int .i64 g2,.int .i64 t1,.int .i64 t2] 36):=fun X k=>HB0.out X (K1.out.trans ((K3.out.trans k39).trans k))
 have LG:Hid (∀ X,Kp W9 X Nul→GI 0 X g L):=fun X k=>HG.out X ((K3.out.trans k39).trans k)
 have LW:Hid (∀ X,Kp W9 X Nul→GI 0 X w2.heap.size Lw):=fun X k=>HGw.out X (k39.trans k)
 have LK:Hid (Kp w W9 Nul):=HK0.out.trans (K1.out.trans (K3.out.trans k39))
 have qN0:W9.cell? ⟨v6.heap.size,0,none⟩=some (.int .i64 n1):=(LN.out W9 (Kp.refl W9 Nul)).cell rfl
 have qN1:W9.cell? ⟨v6.heap.size,1,none⟩=some (.int .i64 n2):=(LN.out W9 (Kp.refl W9 Nul)).cell rfl
 have qN2:W9.cell? ⟨v6.heap.size,2,none⟩=some (.int .i64 n3):=(LN.out W9 (Kp.refl W9 Nul)).cell rfl
 have qN3:W9.cell? ⟨v6.heap.size,3,none⟩=some (.int .i64 n4):=(LN.out W9 (Kp.refl W9 Nul)).cell rfl
 have qT0:W9.cell? ⟨(w4.heap.size+1),0,none⟩=some (.int .i64 u1):=(LT.out W9 (Kp.refl W9 Nul)).cell rfl
 have qT1:W9.cell? ⟨(w4.heap.size+1),1,none⟩=some (.int .i64 u2):=(LT.out W9 (Kp.refl W9 Nul)).cell rfl
 clear hW9 k89 k39 HC7 HC8 HC10 HB0 HG HGw K1 K2 K3 K4 K5 K6 K7 K8 Ksa0 Ksa1 Ksa2 Ksa3 Ksa4 Ksa5 Ksa6 Ksa7 Ksa8 Ksa9 Ksb0 Ksb1 Ksb2 Ksb3 Ksb4
 go_wp2_with (first
  | (rw [HW9.out])
  | (refine wpList_load_mid rfl 32 (.tmp 95) rfl sb4.heap.size (pkf x1 6 * 2) rfl [.int .i64 p1,.int .i64 p2] _ HR8.out Tryz.underlying32 rfl infoAddr2' ?_)
  | fail)
 clear qN0 qN1 qN2 qN3 qT0 qT1 HW9 HR8 hp8
 have HNf:Hid (¬ fits ((a1,a2),(a3,a4)) (p1,p2)=true):=not_fits HNc.out
 refine (copy_bad g ((n1,n2),(n3,n4)) (u1,u2) W9 HNo.out).mono ?_
 rintro e c0 ⟨rfl,hk⟩
 have Kc0:Hid (Kp W9 c0 Nul):=(Kp.refl W9 Nul).trans hk
 clear hk
 have qN0:c0.cell? ⟨v6.heap.size,0,none⟩=some (.int .i64 n1):=(LN.out c0 Kc0.out).cell rfl
 have qN1:c0.cell? ⟨v6.heap.size,1,none⟩=some (.int .i64 n2):=(LN.out c0 Kc0.out).cell rfl
 have qN2:c0.cell? ⟨v6.heap.size,2,none⟩=some (.int .i64 n3):=(LN.out c0 Kc0.out).cell rfl
 have qN3:c0.cell? ⟨v6.heap.size,3,none⟩=some (.int .i64 n4):=(LN.out c0 Kc0.out).cell rfl
 have qP0:c0.cell? ⟨v9.heap.size,0,none⟩=some (.int .i64 p1):=(LP.out c0 Kc0.out).cell rfl
 have qP1:c0.cell? ⟨v9.heap.size,1,none⟩=some (.int .i64 p2):=(LP.out c0 Kc0.out).cell rfl
 go_wp2_with fail
 clear qN0 qN1 qN2 qN3 qP0 qP1
 refine (move_badR g L ((n1,n2),(n3,n4)) (p1,p2) c0 (LG.out _ Kc0.out) HOk.out (HV.out.kp (LK.out.trans Kc0.out)) HNo.out).mono ?_
 rintro e c1 ⟨rfl,hk⟩
 have Kc1:Hid (Kp W9 c1 Nul):=Kc0.out.trans hk
 clear hk
 have qN0:c1.cell? ⟨v6.heap.size,0,none⟩=some (.int .i64 n1):=(LN.out c1 Kc1.out).cell rfl
 have qN1:c1.cell? ⟨v6.heap.size,1,none⟩=some (.int .i64 n2):=(LN.out c1 Kc1.out).cell rfl
 have qN2:c1.cell? ⟨v6.heap.size,2,none⟩=some (.int .i64 n3):=(LN.out c1 Kc1.out).cell rfl
 have qN3:c1.cell? ⟨v6.heap.size,3,none⟩=some (.int .i64 n4):=(LN.out c1 Kc1.out).cell rfl
 go_wp2_with fail
 clear qN0 qN1 qN2 qN3
 refine (clear_bad g ((n1,n2),(n3,n4)) c1 HNo.out).mono ?_
 rintro e c2 ⟨rfl,hk⟩
 have Kc2:Hid (Kp W9 c2 Nul):=Kc1.out.trans hk
 clear hk
 have qP0:c2.cell? ⟨v9.heap.size,0,none⟩=some (.int .i64 p1):=(LP.out c2 Kc2.out).cell rfl
 have qP1:c2.cell? ⟨v9.heap.size,1,none⟩=some (.int .i64 p2):=(LP.out c2 Kc2.out).cell rfl
 have qN0:c2.cell? ⟨v6.heap.size,0,none⟩=some (.int .i64 n1):=(LN.out c2 Kc2.out).cell rfl
 have qN1:c2.cell? ⟨v6.heap.size,1,none⟩=some (.int .i64 n2):=(LN.out c2 Kc2.out).cell rfl
 have qN2:c2.cell? ⟨v6.heap.size,2,none⟩=some (.int .i64 n3):=(LN.out c2 Kc2.out).cell rfl
 have qN3:c2.cell? ⟨v6.heap.size,3,none⟩=some (.int .i64 n4):=(LN.out c2 Kc2.out).cell rfl
 go_wp2_with fail
 clear qP0 qP1 qN0 qN1 qN2 qN3
 refine (fill_badR g ((n1,n2),(n3,n4)) (p1,p2) c2 HNo.out).mono ?_
 rintro e c3 ⟨rfl,hk⟩
 have Kc3:Hid (Kp W9 c3 Nul):=Kc2.out.trans hk
 clear hk
 have qA0:c3.cell? ⟨w4.heap.size,0,none⟩=some (.int .i64 a1):=(LA.out c3 Kc3.out).cell rfl
 have qA1:c3.cell? ⟨w4.heap.size,1,none⟩=some (.int .i64 a2):=(LA.out c3 Kc3.out).cell rfl
 have qA2:c3.cell? ⟨w4.heap.size,2,none⟩=some (.int .i64 a3):=(LA.out c3 Kc3.out).cell rfl
 have qA3:c3.cell? ⟨w4.heap.size,3,none⟩=some (.int .i64 a4):=(LA.out c3 Kc3.out).cell rfl
 have qP0:c3.cell? ⟨v9.heap.size,0,none⟩=some (.int .i64 p1):=(LP.out c3 Kc3.out).cell rfl
 have qP1:c3.cell? ⟨v9.heap.size,1,none⟩=some (.int .i64 p2):=(LP.out c3 Kc3.out).cell rfl
 go_wp2_with fail
 clear qA0 qA1 qA2 qA3 qP0 qP1
 refine (copy_off g ((a1,a2),(a3,a4)) (p1,p2) c3 HAok.out HNf.out).mono ?_
 rintro e c4 ⟨rfl,hk⟩
 have Kc4:Hid (Kp W9 c4 Nul):=Kc3.out.trans hk
 clear hk
 have qA0:c4.cell? ⟨w4.heap.size,0,none⟩=some (.int .i64 a1):=(LA.out c4 Kc4.out).cell rfl
 have qA1:c4.cell? ⟨w4.heap.size,1,none⟩=some (.int .i64 a2):=(LA.out c4 Kc4.out).cell rfl
 have qA2:c4.cell? ⟨w4.heap.size,2,none⟩=some (.int .i64 a3):=(LA.out c4 Kc4.out).cell rfl
 have qA3:c4.cell? ⟨w4.heap.size,3,none⟩=some (.int .i64 a4):=(LA.out c4 Kc4.out).cell rfl
 have qP0:c4.cell? ⟨v9.heap.size,0,none⟩=some (.int .i64 p1):=(LP.out c4 Kc4.out).cell rfl
 have qP1:c4.cell? ⟨v9.heap.size,1,none⟩=some (.int .i64 p2):=(LP.out c4 Kc4.out).cell rfl
 go_wp2_with fail
 clear qA0 qA1 qA2 qA3 qP0 qP1
 refine (move_offR g L ((a1,a2),(a3,a4)) (p1,p2) c4 (LG.out _ Kc4.out) HOk.out (HV.out.kp (LK.out.trans Kc4.out)) HAok.out HNf.out).mono ?_
 rintro e c5 ⟨rfl,hk⟩
 have Kc5:Hid (Kp W9 c5 Nul):=Kc4.out.trans hk
 clear hk
 have qP0:c5.cell? ⟨v9.heap.size,0,none⟩=some (.int .i64 p1):=(LP.out c5 Kc5.out).cell rfl
 have qP1:c5.cell? ⟨v9.heap.size,1,none⟩=some (.int .i64 p2):=(LP.out c5 Kc5.out).cell rfl
 have qA0:c5.cell? ⟨w4.heap.size,0,none⟩=some (.int .i64 a1):=(LA.out c5 Kc5.out).cell rfl
 have qA1:c5.cell? ⟨w4.heap.size,1,none⟩=some (.int .i64 a2):=(LA.out c5 Kc5.out).cell rfl
 have qA2:c5.cell? ⟨w4.heap.size,2,none⟩=some (.int .i64 a3):=(LA.out c5 Kc5.out).cell rfl
 have qA3:c5.cell? ⟨w4.heap.size,3,none⟩=some (.int .i64 a4):=(LA.out c5 Kc5.out).cell rfl
 go_wp2_with fail
 clear qP0 qP1 qA0 qA1 qA2 qA3
 refine (fill_offR g ((a1,a2),(a3,a4)) (p1,p2) c5 HAok.out HNc.out).mono ?_
 rintro e c6 ⟨rfl,hk⟩
 have Kc6:Hid (Kp W9 c6 Nul):=Kc5.out.trans hk
 clear hk
 go_upto_region 19 with fail
 obtain ⟨e1,he1⟩:∃ e1:Int,256 - (pkf t1 3:Int)=e1:=⟨_,rfl⟩
 obtain ⟨e2,he2⟩:∃ e2:Int,4096 - (pkf t2 3:Int)=e2:=⟨_,rfl⟩
 have HE:Hid (254≤e1∧e1≤256∧4094≤e2∧e2≤4096):=by
  have h1:=(pkf_val t1 3 (by decide)).2
  have h2:=(pkf_val t2 3 (by decide)).2
  show _∧_∧_∧_
  omega
 have HPq3:Hid (∀ w,Calls Tryz.prog 28 #[.int .i64 t1,.int .i64 3] w fun e w'=>e=.returned (.int .i64 (pkf t1 3))∧Kp w w' Nul):=fun w=>(HPk3.out 3 w (by decide)).mono fun e w' q=>⟨q.1,by rw [q.2];exact Kp.refl _ _⟩
 have HPq4:Hid (∀ w,Calls Tryz.prog 28 #[.int .i64 t2,.int .i64 3] w fun e w'=>e=.returned (.int .i64 (pkf t2 3))∧Kp w w' Nul):=fun w=>(HPk4.out 3 w (by decide)).mono fun e w' q=>⟨q.1,by rw [q.2];exact Kp.refl _ _⟩
 have hs1:wrap64 (256 - (pkf t1 3:Int))=e1:=by rw [he1];have:=HE.out;unfold wrap64;omega
 have hs2:wrap64 (4096 - (pkf t2 3:Int))=e2:=by rw [he2];have:=HE.out;unfold wrap64;omega
 have HS1:Hid (IntKind.i64.wrap (256 - (pkf t1 3:Int))=e1):=by show IntKind.i64.wrap _=_;rw [IntKind.wrap_i64];have:=HE.out;omega
 have HS2:Hid (IntKind.i64.wrap (4096 - (pkf t2 3:Int))=e2):=by show IntKind.i64.wrap _=_;rw [IntKind.wrap_i64];have:=HE.out;omega
 clear he1 he2
 go_cut [27] from 176 to 186 (fun s wz=>∃ b,s=.pointer (some ⟨b,0,none⟩)∧Blk wz b [.int .i64 e1,.int .i64 e2] 32∧Kp c6 wz Nul)
 case first=>
  refine wp_region_noPanic ?_
  refine wp_region_hel (fun w':World=>Kp c6 w' Nul) (by kernel_rfl) ((Kp.refl _ _).drew) (fun hHeld=>?_)
  refine wpH_takes (i:=0) (v:=.pointer (some ⟨w.heap.size,7,none⟩)) (some 176) rfl rfl (by kernel_rfl) (by kernel_rfl) (by kernel_rfl) (fun _ _ _ h=>h) (Or.inl ⟨by rfl,?_⟩) hHeld ?_
  ·intro w' hSw;clear hSw;go_simp
  simp only [Act.put,List.setIfInBounds_toArray,List.set_cons_zero,List.set_cons_succ]
  refine wpH_takes (i:=1) (v:=.pointer (some ⟨w.heap.size,7,none⟩)) (some 177) rfl rfl (by kernel_rfl) (by kernel_rfl) (by kernel_rfl) (fun _ _ _ h=>h) (Or.inl ⟨by rfl,?_⟩) hHeld ?_
  ·intro w' hSw;clear hSw;go_simp
  simp only [Act.put,List.setIfInBounds_toArray,List.set_cons_zero,List.set_cons_succ]
  refine wpH_takes (i:=2) (v:=.int .i64 t1) (some 178) rfl rfl (by kernel_rfl) (by kernel_rfl) (by kernel_rfl) (fun _ _ _ h=>h) (Or.inl ⟨by rfl,?_⟩) hHeld ?_
  ·intro w' hSw;have s0:=(LX.out w' (Kc6.out.trans hSw)).cell (i:=7) rfl;clear hSw;go_simp
  simp only [Act.put,List.setIfInBounds_toArray,List.set_cons_zero,List.set_cons_succ]
  refine wpH_takes (i:=5) (v:=.pointer (some ⟨w.heap.size,7,none⟩)) (some 181) rfl rfl (by kernel_rfl) (by kernel_rfl) (by kernel_rfl) (fun _ _ _ h=>h) (Or.inl ⟨by rfl,?_⟩) hHeld ?_
  ·intro w' hSw;clear hSw;go_simp
  simp only [Act.put,List.setIfInBounds_toArray,List.set_cons_zero,List.set_cons_succ]
  refine wpH_takes (i:=6) (v:=.pointer (some ⟨w.heap.size,8,none⟩)) (some 182) rfl rfl (by kernel_rfl) (by kernel_rfl) (by kernel_rfl) (fun _ _ _ h=>h) (Or.inl ⟨by rfl,?_⟩) hHeld ?_
  ·intro w' hSw;clear hSw;go_simp
  simp only [Act.put,List.setIfInBounds_toArray,List.set_cons_zero,List.set_cons_succ]
  refine wpH_takes (i:=7) (v:=.int .i64 t2) (some 183) rfl rfl (by kernel_rfl) (by kernel_rfl) (by kernel_rfl) (fun _ _ _ h=>h) (Or.inl ⟨by rfl,?_⟩) hHeld ?_
  ·intro w' hSw;have s0:=(LX.out w' (Kc6.out.trans hSw)).cell (i:=8) rfl;clear hSw;go_simp
  simp only [Act.put,List.setIfInBounds_toArray,List.set_cons_zero,List.set_cons_succ]
  have KU0:Kp c6 c6.drew Nul:=(Kp.refl _ _).drew
  generalize c6.drew=d0 at KU0 ⊢
  have KU:Hid (Kp c6 d0 Nul):=KU0
  clear KU0
  refine wpH_fork (i:=3) (j:=11) (by kernel_rfl) rfl rfl rfl rfl (fun K hK=>?_) (fun K hK=>?_)
  ·go_simp
   refine (HPq3.out _).mono ?_
   rintro e d1 ⟨rfl,hk2⟩
   have Kd1:Hid (Kp c6 d1 Nul):=KU.out.trans hk2
   refine hK.out _ _ Kd1.out (fun hHeld=>?_)
   clear hK K hk2
   (try simp only [Act.put,List.setIfInBounds_toArray,List.set_cons_zero,List.set_cons_succ])
   refine wpH_takes (i:=4) (v:=.int .i64 e1) (some 180) rfl rfl (by kernel_rfl) (by kernel_rfl) (by kernel_rfl) (fun _ _ _ h=>h) (Or.inl ⟨by rfl,?_⟩) hHeld ?_
   ·intro w' hSw;have s0:IntKind.i64.wrap (256 - (pkf t1 3:Int))=e1:=HS1.out;clear hSw;go_simp
   simp only [Act.put,List.setIfInBounds_toArray,List.set_cons_zero,List.set_cons_succ]
   refine wpH_fork (i:=8) (j:=11) (by kernel_rfl) rfl rfl rfl rfl (fun K hK=>?_) (fun K hK=>?_)
   ·go_simp
    refine (HPq4.out _).mono ?_
    rintro e d2 ⟨rfl,hk2⟩
    have Kd2:Hid (Kp c6 d2 Nul):=Kd1.out.trans hk2
    refine hK.out _ _ Kd2.out (fun hHeld=>?_)
    clear hK K hk2
    (try simp only [Act.put,List.setIfInBounds_toArray,List.set_cons_zero,List.set_cons_succ])
    refine wpH_takes (i:=9) (v:=.int .i64 e2) (some 185) rfl rfl (by kernel_rfl) (by kernel_rfl) (by kernel_rfl) (fun _ _ _ h=>h) (Or.inl ⟨by rfl,?_⟩) hHeld ?_
    ·intro w' hSw;have s0:IntKind.i64.wrap (4096 - (pkf t2 3:Int))=e2:=HS2.out;clear hSw;go_simp
    simp only [Act.put,List.setIfInBounds_toArray,List.set_cons_zero,List.set_cons_succ]
    refine wpH_fork (i:=10) (j:=11) (by kernel_rfl) rfl rfl rfl rfl (fun K hK=>?_) (fun K hK=>?_)
    ·go_simp
     refine (HAt.out e1 e2 _).mono ?_
     rintro e d3 ⟨rfl,hk2⟩
     have Kd3:Hid (Kp c6 d3 Nul):=Kd2.out.trans hk2
     refine hK.out _ _ Kd3.out (fun hHeld=>?_)
     clear hK K hk2
     (try simp only [Act.put,List.setIfInBounds_toArray,List.set_cons_zero,List.set_cons_succ])
     refine wpH_step (i:=11) (by kernel_rfl) rfl rfl (fun K hK=>?_)
     go_simp
     have BSZ:Hid (c6.heap.size≤d3.heap.size):=Kd3.out.size
     have hk2:Kp d3 (d3.alloc (.cells #[.int .i64 0,.int .i64 0] 32)) Nul:=(Kp.refl d3 Nul).alloc _
     have hb2:Blk (d3.alloc (.cells #[.int .i64 0,.int .i64 0] 32)) d3.heap.size [.int .i64 0,.int .i64 0] 32:=Blk.new d3 _ _
     generalize d3.alloc (.cells #[.int .i64 0,.int .i64 0] 32)=d4 at hk2 hb2 ⊢
     have Nd4:Hid (Blk d4 d3.heap.size [.int .i64 0,.int .i64 0] 32):=hb2
     have Kd4:Hid (Kp c6 d4 Nul):=Kd3.out.trans hk2
     refine hK.out _ _ Kd4.out (fun hHeld=>?_)
     clear hK K hk2 hb2
     (try simp only [Act.put,List.setIfInBounds_toArray,List.set_cons_zero,List.set_cons_succ])
     refine wpH_step (i:=12) (by kernel_rfl) rfl rfl (fun K hK=>?_)
     refine wp_store_blk 32 (.tmp 27) (.tmp 186) rfl _ _ [.int .i64 e1,.int .i64 e2] _ (Nd4.out) rfl rfl rfl infoAddr2' (ints2 _ _) ?_
     intro Y hbY hkY
     have hKY:Kp c6 Y Nul:=Kd4.out.trans' hkY (fun i hi e=>by have e':i=_:=e;have:=BSZ.out;omega)
     refine hK.out _ _ hKY (fun _=>?_)
     clear hK K hHeld
     (try simp only [Act.put])
     refine wpAnyH_done (by kernel_rfl) ?_ _
     refine NoPanic.normal ?_
     go_wp2_with fail
     go_meet
     case rel=>exact ⟨_,rfl,hbY,hKY⟩
    ·go_simp
     have BSZ:Hid (c6.heap.size≤d2.heap.size):=Kd2.out.size
     have hk2:Kp d2 (d2.alloc (.cells #[.int .i64 0,.int .i64 0] 32)) Nul:=(Kp.refl d2 Nul).alloc _
     have hb2:Blk (d2.alloc (.cells #[.int .i64 0,.int .i64 0] 32)) d2.heap.size [.int .i64 0,.int .i64 0] 32:=Blk.new d2 _ _
     generalize d2.alloc (.cells #[.int .i64 0,.int .i64 0] 32)=d5 at hk2 hb2 ⊢
     have Nd5:Hid (Blk d5 d2.heap.size [.int .i64 0,.int .i64 0] 32):=hb2
     have Kd5:Hid (Kp c6 d5 Nul):=Kd2.out.trans hk2
     refine hK.out _ _ Kd5.out (fun hHeld=>?_)
     clear hK K hk2 hb2
     (try simp only [Act.put,List.setIfInBounds_toArray,List.set_cons_zero,List.set_cons_succ])
     refine wpH_step (i:=10) (by kernel_rfl) rfl rfl (fun K hK=>?_)
     go_simp
     refine (HAt.out e1 e2 _).mono ?_
     rintro e d6 ⟨rfl,hk2⟩
     have Kd6:Hid (Kp c6 d6 Nul):=Kd5.out.trans hk2
     have Nd6:=(Nd5.out).kp hk2 (fun x=>x)
     have Md6:Hid (Blk d6 _ [.int .i64 0,.int .i64 0] 32):=Nd6
     clear Nd6
     refine hK.out _ _ Kd6.out (fun hHeld=>?_)
     clear hK K hk2
     (try simp only [Act.put,List.setIfInBounds_toArray,List.set_cons_zero,List.set_cons_succ])
     refine wpH_step (i:=12) (by kernel_rfl) rfl rfl (fun K hK=>?_)
     refine wp_store_blk 32 (.tmp 27) (.tmp 186) rfl _ _ [.int .i64 e1,.int .i64 e2] _ (Md6.out) rfl rfl rfl infoAddr2' (ints2 _ _) ?_
     intro Y hbY hkY
     have hKY:Kp c6 Y Nul:=Kd6.out.trans' hkY (fun i hi e=>by have e':i=_:=e;have:=BSZ.out;omega)
     refine hK.out _ _ hKY (fun _=>?_)
     clear hK K hHeld
     (try simp only [Act.put])
     refine wpAnyH_done (by kernel_rfl) ?_ _
     refine NoPanic.normal ?_
     go_wp2_with fail
     go_meet
     case rel=>exact ⟨_,rfl,hbY,hKY⟩
   ·go_simp
    have BSZ:Hid (c6.heap.size≤d1.heap.size):=Kd1.out.size
    have hk2:Kp d1 (d1.alloc (.cells #[.int .i64 0,.int .i64 0] 32)) Nul:=(Kp.refl d1 Nul).alloc _
    have hb2:Blk (d1.alloc (.cells #[.int .i64 0,.int .i64 0] 32)) d1.heap.size [.int .i64 0,.int .i64 0] 32:=Blk.new d1 _ _
    generalize d1.alloc (.cells #[.int .i64 0,.int .i64 0] 32)=d7 at hk2 hb2 ⊢
    have Nd7:Hid (Blk d7 d1.heap.size [.int .i64 0,.int .i64 0] 32):=hb2
    have Kd7:Hid (Kp c6 d7 Nul):=Kd1.out.trans hk2
    refine hK.out _ _ Kd7.out (fun hHeld=>?_)
    clear hK K hk2 hb2
    (try simp only [Act.put,List.setIfInBounds_toArray,List.set_cons_zero,List.set_cons_succ])
    refine wpH_step (i:=8) (by kernel_rfl) rfl rfl (fun K hK=>?_)
    go_simp
    refine (HPq4.out _).mono ?_
    rintro e d8 ⟨rfl,hk2⟩
    have Kd8:Hid (Kp c6 d8 Nul):=Kd7.out.trans hk2
    have Nd8:=(Nd7.out).kp hk2 (fun x=>x)
    have Md8:Hid (Blk d8 _ [.int .i64 0,.int .i64 0] 32):=Nd8
    clear Nd8
    refine hK.out _ _ Kd8.out (fun hHeld=>?_)
    clear hK K hk2
    (try simp only [Act.put,List.setIfInBounds_toArray,List.set_cons_zero,List.set_cons_succ])
    refine wpH_takes (i:=9) (v:=.int .i64 e2) (some 185) rfl rfl (by kernel_rfl) (by kernel_rfl) (by kernel_rfl) (fun _ _ _ h=>h) (Or.inl ⟨by rfl,?_⟩) hHeld ?_
    ·intro w' hSw;have s0:IntKind.i64.wrap (4096 - (pkf t2 3:Int))=e2:=HS2.out;clear hSw;go_simp
    simp only [Act.put,List.setIfInBounds_toArray,List.set_cons_zero,List.set_cons_succ]
    refine wpH_step (i:=10) (by kernel_rfl) rfl rfl (fun K hK=>?_)
    go_simp
    refine (HAt.out e1 e2 _).mono ?_
    rintro e d9 ⟨rfl,hk2⟩
    have Kd9:Hid (Kp c6 d9 Nul):=Kd8.out.trans hk2
    have Nd9:=(Md8.out).kp hk2 (fun x=>x)
    have Md9:Hid (Blk d9 _ [.int .i64 0,.int .i64 0] 32):=Nd9
    clear Nd9
    refine hK.out _ _ Kd9.out (fun hHeld=>?_)
    clear hK K hk2
    (try simp only [Act.put,List.setIfInBounds_toArray,List.set_cons_zero,List.set_cons_succ])
    refine wpH_step (i:=12) (by kernel_rfl) rfl rfl (fun K hK=>?_)
    refine wp_store_blk 32 (.tmp 27) (.tmp 186) rfl _ _ [.int .i64 e1,.int .i64 e2] _ (Md9.out) rfl rfl rfl infoAddr2' (ints2 _ _) ?_
    intro Y hbY hkY
    have hKY:Kp c6 Y Nul:=Kd9.out.trans' hkY (fun i hi e=>by have e':i=_:=e;have:=BSZ.out;omega)
    refine hK.out _ _ hKY (fun _=>?_)
    clear hK K hHeld
    (try simp only [Act.put])
    refine wpAnyH_done (by kernel_rfl) ?_ _
    refine NoPanic.normal ?_
    go_wp2_with fail
    go_meet
    case rel=>exact ⟨_,rfl,hbY,hKY⟩
  ·go_simp
   have BSZ:Hid (c6.heap.size≤d0.heap.size):=KU.out.size
   have hk2:Kp d0 (d0.alloc (.cells #[.int .i64 0,.int .i64 0] 32)) Nul:=(Kp.refl d0 Nul).alloc _
   have hb2:Blk (d0.alloc (.cells #[.int .i64 0,.int .i64 0] 32)) d0.heap.size [.int .i64 0,.int .i64 0] 32:=Blk.new d0 _ _
   generalize d0.alloc (.cells #[.int .i64 0,.int .i64 0] 32)=d10 at hk2 hb2 ⊢
   have Nd10:Hid (Blk d10 d0.heap.size [.int .i64 0,.int .i64 0] 32):=hb2
   have Kd10:Hid (Kp c6 d10 Nul):=KU.out.trans hk2
   refine hK.out _ _ Kd10.out (fun hHeld=>?_)
   clear hK K hk2 hb2
   (try simp only [Act.put,List.setIfInBounds_toArray,List.set_cons_zero,List.set_cons_succ])
   refine wpH_step (i:=3) (by kernel_rfl) rfl rfl (fun K hK=>?_)
   go_simp
   refine (HPq3.out _).mono ?_
   rintro e d11 ⟨rfl,hk2⟩
   have Kd11:Hid (Kp c6 d11 Nul):=Kd10.out.trans hk2
   have Nd11:=(Nd10.out).kp hk2 (fun x=>x)
   have Md11:Hid (Blk d11 _ [.int .i64 0,.int .i64 0] 32):=Nd11
   clear Nd11
   refine hK.out _ _ Kd11.out (fun hHeld=>?_)
   clear hK K hk2
   (try simp only [Act.put,List.setIfInBounds_toArray,List.set_cons_zero,List.set_cons_succ])
   refine wpH_takes (i:=4) (v:=.int .i64 e1) (some 180) rfl rfl (by kernel_rfl) (by kernel_rfl) (by kernel_rfl) (fun _ _ _ h=>h) (Or.inl ⟨by rfl,?_⟩) hHeld ?_
   ·intro w' hSw;have s0:IntKind.i64.wrap (256 - (pkf t1 3:Int))=e1:=HS1.out;clear hSw;go_simp
   simp only [Act.put,List.setIfInBounds_toArray,List.set_cons_zero,List.set_cons_succ]
   refine wpH_step (i:=8) (by kernel_rfl) rfl rfl (fun K hK=>?_)
   go_simp
   refine (HPq4.out _).mono ?_
   rintro e d12 ⟨rfl,hk2⟩
   have Kd12:Hid (Kp c6 d12 Nul):=Kd11.out.trans hk2
   have Nd12:=(Md11.out).kp hk2 (fun x=>x)
   have Md12:Hid (Blk d12 _ [.int .i64 0,.int .i64 0] 32):=Nd12
   clear Nd12
   refine hK.out _ _ Kd12.out (fun hHeld=>?_)
   clear hK K hk2
   (try simp only [Act.put,List.setIfInBounds_toArray,List.set_cons_zero,List.set_cons_succ])
   refine wpH_takes (i:=9) (v:=.int .i64 e2) (some 185) rfl rfl (by kernel_rfl) (by kernel_rfl) (by kernel_rfl) (fun _ _ _ h=>h) (Or.inl ⟨by rfl,?_⟩) hHeld ?_
   ·intro w' hSw;have s0:IntKind.i64.wrap (4096 - (pkf t2 3:Int))=e2:=HS2.out;clear hSw;go_simp
   simp only [Act.put,List.setIfInBounds_toArray,List.set_cons_zero,List.set_cons_succ]
   refine wpH_step (i:=10) (by kernel_rfl) rfl rfl (fun K hK=>?_)
   go_simp
   refine (HAt.out e1 e2 _).mono ?_
   rintro e d13 ⟨rfl,hk2⟩
   have Kd13:Hid (Kp c6 d13 Nul):=Kd12.out.trans hk2
   have Nd13:=(Md12.out).kp hk2 (fun x=>x)
   have Md13:Hid (Blk d13 _ [.int .i64 0,.int .i64 0] 32):=Nd13
   clear Nd13
   refine hK.out _ _ Kd13.out (fun hHeld=>?_)
   clear hK K hk2
   (try simp only [Act.put,List.setIfInBounds_toArray,List.set_cons_zero,List.set_cons_succ])
   refine wpH_step (i:=12) (by kernel_rfl) rfl rfl (fun K hK=>?_)
   refine wp_store_blk 32 (.tmp 27) (.tmp 186) rfl _ _ [.int .i64 e1,.int .i64 e2] _ (Md13.out) rfl rfl rfl infoAddr2' (ints2 _ _) ?_
   intro Y hbY hkY
   have hKY:Kp c6 Y Nul:=Kd13.out.trans' hkY (fun i hi e=>by have e':i=_:=e;have:=BSZ.out;omega)
   refine hK.out _ _ hKY (fun _=>?_)
   clear hK K hHeld
   (try simp only [Act.put])
   refine wpAnyH_done (by kernel_rfl) ?_ _
   refine NoPanic.normal ?_
   go_wp2_with fail
   go_meet
   case rel=>exact ⟨_,rfl,hbY,hKY⟩
 case rest=>
  obtain ⟨b27,rfl,hb27,hk27⟩:=hcut
  rename World=>y0
  have LE:Hid (∀ X,Kp y0 X Nul→Blk X b27 [.int .i64 e1,.int .i64 e2] 32):=fun X k=>hb27.kp k (fun x=>x)
  have Ky0:Hid (Kp W9 y0 Nul):=Kc6.out.trans hk27
  have HFt:Hid (fits ((a1,a2),(a3,a4)) (e1,e2)=(decide (e1+a3 - a1≤256) && decide (e2+a4 - a2≤4096))):=fits_edge HF.out.1 HF.out.2.1 HE.out
  obtain ⟨F,hF⟩:∃ F,fits ((a1,a2),(a3,a4)) (e1,e2)=F:=⟨_,rfl⟩
  have HFF:Hid (fits ((a1,a2),(a3,a4)) (e1,e2)=F):=hF
  rw [hF] at HFt
  have h1:=HF.out
  have h2:=HE.out
  have hw1:wrap64 (e1+a3)=e1+a3:=by unfold wrap64;omega
  have hw2:wrap64 (e1+a3 - a1)=e1+a3 - a1:=by unfold wrap64;omega
  have hw3:wrap64 (e2+a4)=e2+a4:=by unfold wrap64;omega
  have hw4:wrap64 (e2+a4 - a2)=e2+a4 - a2:=by unfold wrap64;omega
  clear hb27 hk27 hF h1 h2 HPk3 HPk4 hs1 hs2
  go_upto_region 20 with fail
  go_cut [28] from 187 to 210 (fun s wz=>s=.bool F∧wz=y0)
  case first=>
   have qE0:y0.cell? ⟨b27,0,none⟩=some (.int .i64 e1):=(LE.out _ (Kp.refl _ _)).cell rfl
   have qE1:y0.cell? ⟨b27,1,none⟩=some (.int .i64 e2):=(LE.out _ (Kp.refl _ _)).cell rfl
   have qA0:y0.cell? ⟨w4.heap.size,0,none⟩=some (.int .i64 a1):=(LA.out _ Ky0.out).cell rfl
   have qA1:y0.cell? ⟨w4.heap.size,1,none⟩=some (.int .i64 a2):=(LA.out _ Ky0.out).cell rfl
   have qA2:y0.cell? ⟨w4.heap.size,2,none⟩=some (.int .i64 a3):=(LA.out _ Ky0.out).cell rfl
   have qA3:y0.cell? ⟨w4.heap.size,3,none⟩=some (.int .i64 a4):=(LA.out _ Ky0.out).cell rfl
   by_cases h1:e1+a3 - a1≤256
   ·by_cases h2:e2+a4 - a2≤4096
    ·have hFv:F=true:=by rw [HFt.out,decide_eq_true h1,decide_eq_true h2];rfl
     go_wp2_with fail
     go_meet
     case rel=>exact ⟨by rw [hFv],rfl⟩
    ·have hFv:F=false:=by rw [HFt.out,decide_eq_true h1,decide_eq_false h2];rfl
     have d2:decide (e2+a4 - a2≤4096)=false:=decide_eq_false h2
     go_wp2_with fail
     go_meet
     case rel=>exact ⟨by rw [hFv],rfl⟩
   ·have hFv:F=false:=by rw [HFt.out,decide_eq_false h1];rfl
    have d1:decide (e1+a3 - a1≤256)=false:=decide_eq_false h1
    go_wp2_with fail
    go_meet
    case rel=>exact ⟨by rw [hFv],rfl⟩
  case rest=>
   obtain ⟨rfl,hz⟩:=hcut
   rw [hz]
   clear hz
   clear hw1 hw2 hw3 hw4
   have qE0:y0.cell? ⟨b27,0,none⟩=some (.int .i64 e1):=(LE.out _ (Kp.refl _ _)).cell rfl
   have qE1:y0.cell? ⟨b27,1,none⟩=some (.int .i64 e2):=(LE.out _ (Kp.refl _ _)).cell rfl
   have qA0:y0.cell? ⟨w4.heap.size,0,none⟩=some (.int .i64 a1):=(LA.out _ Ky0.out).cell rfl
   have qA1:y0.cell? ⟨w4.heap.size,1,none⟩=some (.int .i64 a2):=(LA.out _ Ky0.out).cell rfl
   have qA2:y0.cell? ⟨w4.heap.size,2,none⟩=some (.int .i64 a3):=(LA.out _ Ky0.out).cell rfl
   have qA3:y0.cell? ⟨w4.heap.size,3,none⟩=some (.int .i64 a4):=(LA.out _ Ky0.out).cell rfl
   go_wp2_with fail
   clear qE0 qE1 qA0 qA1 qA2 qA3
   refine (move_edge g L ((a1,a2),(a3,a4)) (e1,e2) F y0 (LG.out _ Ky0.out) HOk.out (HV.out.kp (LK.out.trans Ky0.out)) HAok.out HFF.out).mono ?_
   rintro e y1 ⟨mv,er,rfl,her1,her2,hk⟩
   have Ky1:Hid (Kp W9 y1 Nul):=Ky0.out.trans hk
   have HEr:Hid ((F=true→er=0)∧(F=false→er=20)):=⟨her1,her2⟩
   clear her1 her2 hk LE
   go_upto_region 22 with fail
   go_cut [229] from 218 to 228 (fun s wz=>s=.bool false∧wz=y1)
   case first=>
    cases F with
    | true=>
     obtain rfl:=HEr.out.1 rfl
     go_wp2_with fail
     go_meet
     case rel=>exact ⟨rfl,rfl⟩
    | false=>
     obtain rfl:=HEr.out.2 rfl
     go_wp2_with fail
     go_meet
     case rel=>exact ⟨rfl,rfl⟩
   case rest=>
    obtain ⟨rfl,hz⟩:=hcut
    rw [hz]
    clear hz
    go_wp2_with fail
    refine (clone_at g L y1 (LG.out _ Ky1.out) HOk.out).mono ?_
    rintro e y2 ⟨Lh,rfl,hgh,hmh,hk⟩
    have HGh:Hid (GridIn y2 (fun i=>y1.heap.size≤i) y1.heap.size Lh):=hgh
    have HOkh:Hid (Ok17 Lh):=ok_same HOk.out hgh.once' hmh
    have Ky2:Hid (Kp W9 y2 Nul):=Ky1.out.trans hk
    have Sy:Hid (W9.heap.size≤y1.heap.size∧y1.heap.size≤y2.heap.size):=⟨Ky1.out.size,hk.size⟩
    clear hgh hmh hk HEr
    go_wp2_with fail
    refine (HAt.out 1 1 _).mono ?_
    rintro e y3 ⟨rfl,hk⟩
    have Ky3:Hid (Kp y2 y3 Nul):=hk
    clear hk
    go_wp2_with fail
    refine (put_pc (fun i=>y1.heap.size≤i) y1.heap.size 1 1 ctT (.slice none 0 0) (fun _=>True) Lh y3 (HGh.out.kp Ky3.out) (fun i hi=>by have:=Sy.out;have:=Ky3.out.size;omega) HOkh.out ctT_gd (by decide) (zNd_in y3 _) (HV.out.kp ((LK.out.trans Ky2.out).trans Ky3.out))).mono ?_
    rintro e y4 ⟨er,rfl,Mh,hg4,hp,hkm⟩
    have Ky4:Hid (Kp W9 y4 Nul):=(Ky2.out.trans Ky3.out).trans' hkm.kp (fun i hi e=>by
     have h1:=sm_low (HGh.out.kp Ky3.out) e
     have h2:y1.heap.size≤i:=h1
     have:=Sy.out
     omega)
    by_cases hr:roomB Lh (1,1)=true
    ·obtain ⟨rfl,rfl⟩:=hp.yes hr
     have HG4:Hid (GridIn y4 (fun i=>y1.heap.size≤i) y1.heap.size (putL Lh (1,1) ctT)):=hg4
     have HOk4:Hid (Ok17 (putL Lh (1,1) ctT)):=Ok17.put HOkh.out HGh.out.once' (by decide) ctT_gd (roomB_iff.1 hr)
     clear hg4 hp hkm hr
     go_wp2_with fail
     refine (HAt.out 1 1 _).mono ?_
     rintro e y5 ⟨rfl,hk⟩
     have Ky5:Hid (Kp y4 y5 Nul):=hk
     clear hk
     go_wp2_with fail
     refine (HAt.out 3 1 _).mono ?_
     rintro e y6 ⟨rfl,hk⟩
     have Ky6:Hid (Kp y4 y6 Nul):=Ky5.out.trans hk
     clear hk
     go_wp2_with fail
     refine (HAt.out 4 4096 _).mono ?_
     rintro e y7 ⟨rfl,hk⟩
     have Ky7:Hid (Kp y4 y7 Nul):=Ky6.out.trans hk
     clear hk
     go_wp2_with fail
     refine (fill_much y1.heap.size (putL Lh (1,1) ctT) y7 (GridIn.mono (HG4.out.kp Ky7.out) (fun _ _=>Nat.zero_le _)) HOk4.out (HV.out.kp ((LK.out.trans Ky4.out).trans Ky7.out)) ctT (by unfold putL;exact List.mem_cons_self) (by decide)).mono ?_
     rintro e y9 ⟨rfl,hk⟩
     have Ky9:Hid (Kp W9 y9 Nul):=(Ky4.out.trans Ky7.out).trans hk
     have qX1:y9.cell? ⟨w.heap.size,1,none⟩=some (.int .i64 x1):=(LX.out y9 Ky9.out).cell rfl
     clear hk HG4 HOk4 HGh HOkh
     have hp9:=pkf_lt x1 9 (by decide)
     have hneg:wrap64 (-(pkf x1 9:Int))=-(pkf x1 9:Int):=by unfold wrap64;omega
     have hneg2:IntKind.i64.wrap (-(pkf x1 9:Int))=-(pkf x1 9:Int):=by rw [IntKind.wrap_i64];omega
     go_wp2_with fail
     refine (HPk1.out 9 _ (by decide)).mono ?_
     rintro e z1 ⟨rfl,hz⟩
     rw [hz]
     clear hz qX1
     go_wp2_with fail
     refine (rows_bad (-(pkf x1 9:Int)) 1 g L y9 (LG.out _ Ky9.out) HOk.out (HV.out.kp (LK.out.trans Ky9.out)) (fun h=>by have:=h.lo;omega)).mono ?_
     rintro e z2 ⟨rfl,hk⟩
     have Kz2:Hid (Kp W9 z2 Nul):=Ky9.out.trans hk
     clear hk hp9 hneg hneg2
     go_upto_region 32 with fail
     have HPn1:Hid (∀ m w,1≤m→Calls Tryz.prog 28 #[.int .i64 x1,.int .i64 m] w fun e w'=>e=.returned (.int .i64 (pkf x1 m))∧Kp w w' Nul):=fun m w h=>(HPk1.out m w h).mono fun e w' q=>⟨q.1,by rw [q.2];exact Kp.refl _ _⟩
     have HPn2:Hid (∀ m w,1≤m→Calls Tryz.prog 28 #[.int .i64 x2,.int .i64 m] w fun e w'=>e=.returned (.int .i64 (pkf x2 m))∧Kp w w' Nul):=fun m w h=>(HPk2.out m w h).mono fun e w' q=>⟨q.1,by rw [q.2];exact Kp.refl _ _⟩
     have HA1:Hid (IntKind.i64.wrap (1+(pkf x1 4096:Int))=1+(pkf x1 4096:Int)):=by show IntKind.i64.wrap _=_;rw [IntKind.wrap_i64];have:=pkf_lt x1 4096 (by decide);omega
     have HA2:Hid (IntKind.i64.wrap (4097+(pkf x2 99:Int))=4097+(pkf x2 99:Int)):=by show IntKind.i64.wrap _=_;rw [IntKind.wrap_i64];have:=pkf_lt x2 99 (by decide);omega
     refine wp_region_noPanic ?_
     refine wp_region_hel (fun w':World=>Kp z2 w' Nul) (by kernel_rfl) ((Kp.refl _ _).drew) (fun hHeld=>?_)
     refine wpH_takes (i:=0) (v:=.pointer (some ⟨g,0,none⟩)) (some 269) rfl rfl (by kernel_rfl) (by kernel_rfl) (by kernel_rfl) (fun _ _ _ h=>h) (Or.inl ⟨by rfl,?_⟩) hHeld ?_
     ·intro w' hSw;clear hSw;go_simp
     simp only [Act.put,List.setIfInBounds_toArray,List.set_cons_zero,List.set_cons_succ]
     refine wpH_takes (i:=1) (v:=.pointer (some ⟨w.heap.size,1,none⟩)) (some 270) rfl rfl (by kernel_rfl) (by kernel_rfl) (by kernel_rfl) (fun _ _ _ h=>h) (Or.inl ⟨by rfl,?_⟩) hHeld ?_
     ·intro w' hSw;clear hSw;go_simp
     simp only [Act.put,List.setIfInBounds_toArray,List.set_cons_zero,List.set_cons_succ]
     refine wpH_takes (i:=2) (v:=.int .i64 x1) (some 271) rfl rfl (by kernel_rfl) (by kernel_rfl) (by kernel_rfl) (fun _ _ _ h=>h) (Or.inl ⟨by rfl,?_⟩) hHeld ?_
     ·intro w' hSw;have s0:=(LX.out w' (Kz2.out.trans hSw)).cell (i:=1) rfl;clear hSw;go_simp
     simp only [Act.put,List.setIfInBounds_toArray,List.set_cons_zero,List.set_cons_succ]
     refine wpH_takes (i:=5) (v:=.pointer (some ⟨w.heap.size,2,none⟩)) (some 274) rfl rfl (by kernel_rfl) (by kernel_rfl) (by kernel_rfl) (fun _ _ _ h=>h) (Or.inl ⟨by rfl,?_⟩) hHeld ?_
     ·intro w' hSw;clear hSw;go_simp
     simp only [Act.put,List.setIfInBounds_toArray,List.set_cons_zero,List.set_cons_succ]
     refine wpH_takes (i:=6) (v:=.int .i64 x2) (some 275) rfl rfl (by kernel_rfl) (by kernel_rfl) (by kernel_rfl) (fun _ _ _ h=>h) (Or.inl ⟨by rfl,?_⟩) hHeld ?_
     ·intro w' hSw;have s0:=(LX.out w' (Kz2.out.trans hSw)).cell (i:=2) rfl;clear hSw;go_simp
     simp only [Act.put,List.setIfInBounds_toArray,List.set_cons_zero,List.set_cons_succ]
     refine wpH_step (i:=3) (by kernel_rfl) rfl rfl (fun K hK=>?_)
     go_simp
     refine (HPn1.out 4096 _ (by decide)).mono ?_
     rintro e z3 ⟨rfl,hk2⟩
     have Kz3:Hid (Kp z2 z3 Nul):=((Kp.refl z2 Nul).drew).trans hk2
     refine hK.out _ _ Kz3.out (fun hHeld=>?_)
     clear hK K hk2
     (try simp only [Act.put,List.setIfInBounds_toArray,List.set_cons_zero,List.set_cons_succ])
     refine wpH_takes (i:=4) (v:=.int .i64 (1+(pkf x1 4096:Int))) (some 273) rfl rfl (by kernel_rfl) (by kernel_rfl) (by kernel_rfl) (fun _ _ _ h=>h) (Or.inl ⟨by rfl,?_⟩) hHeld ?_
     ·intro w' hSw;have s0:=HA1.out;clear hSw;go_simp
     simp only [Act.put,List.setIfInBounds_toArray,List.set_cons_zero,List.set_cons_succ]
     refine wpH_step (i:=7) (by kernel_rfl) rfl rfl (fun K hK=>?_)
     go_simp
     refine (HPn2.out 99 _ (by decide)).mono ?_
     rintro e z4 ⟨rfl,hk2⟩
     have Kz4:Hid (Kp z2 z4 Nul):=Kz3.out.trans hk2
     refine hK.out _ _ Kz4.out (fun hHeld=>?_)
     clear hK K hk2
     (try simp only [Act.put,List.setIfInBounds_toArray,List.set_cons_zero,List.set_cons_succ])
     refine wpH_takes (i:=8) (v:=.int .i64 (4097+(pkf x2 99:Int))) (some 277) rfl rfl (by kernel_rfl) (by kernel_rfl) (by kernel_rfl) (fun _ _ _ h=>h) (Or.inl ⟨by rfl,?_⟩) hHeld ?_
     ·intro w' hSw;have s0:=HA2.out;clear hSw;go_simp
     simp only [Act.put,List.setIfInBounds_toArray,List.set_cons_zero,List.set_cons_succ]
     refine wpH_step (i:=9) (by kernel_rfl) rfl rfl (fun K hK=>?_)
     go_simp
     refine (rows_bad (1+(pkf x1 4096:Int)) (4097+(pkf x2 99:Int)) g L z4 (LG.out _ (Kz2.out.trans Kz4.out)) HOk.out (HV.out.kp (LK.out.trans (Kz2.out.trans Kz4.out))) (fun h=>by have:=h.nh;simp at this;omega)).mono ?_
     rintro e z5 ⟨rfl,hk2⟩
     have Kz5:Hid (Kp z2 z5 Nul):=Kz4.out.trans hk2
     refine hK.out _ _ Kz5.out (fun hHeld=>?_)
     clear hK K hk2
     (try simp only [Act.put,List.setIfInBounds_toArray,List.set_cons_zero,List.set_cons_succ])
     refine wpH_takes (i:=10) (v:=.tuple #[.pointer none,.int .i64 1]) (some 268) rfl rfl (by kernel_rfl) (by kernel_rfl) (by kernel_rfl) (fun _ _ _ h=>h) (Or.inl ⟨by rfl,?_⟩) hHeld ?_
     ·intro w' hSw;clear hSw;go_simp
     simp only [Act.put,List.setIfInBounds_toArray,List.set_cons_zero,List.set_cons_succ]
     refine wpH_takes (i:=11) (v:=.pointer none) (some 279) rfl rfl (by kernel_rfl) (by kernel_rfl) (by kernel_rfl) (fun _ _ _ h=>h) (Or.inl ⟨by rfl,?_⟩) hHeld ?_
     ·intro w' hSw;clear hSw;go_simp
     simp only [Act.put,List.setIfInBounds_toArray,List.set_cons_zero,List.set_cons_succ]
     refine wpH_takes (i:=12) (v:=.int .i64 1) (some 280) rfl rfl (by kernel_rfl) (by kernel_rfl) (by kernel_rfl) (fun _ _ _ h=>h) (Or.inl ⟨by rfl,?_⟩) hHeld ?_
     ·intro w' hSw;clear hSw;go_simp
     simp only [Act.put,List.setIfInBounds_toArray,List.set_cons_zero,List.set_cons_succ]
     refine wpH_takes (i:=13) (v:=.pointer none) (some 36) rfl rfl (by kernel_rfl) (by kernel_rfl) (by kernel_rfl) (fun _ _ _ h=>h) (Or.inl ⟨by rfl,?_⟩) hHeld ?_
     ·intro w' hSw;clear hSw;go_simp
     simp only [Act.put,List.setIfInBounds_toArray,List.set_cons_zero,List.set_cons_succ]
     refine wpH_takes (i:=14) (v:=.int .i64 1) (some 37) rfl rfl (by kernel_rfl) (by kernel_rfl) (by kernel_rfl) (fun _ _ _ h=>h) (Or.inl ⟨by rfl,?_⟩) hHeld ?_
     ·intro w' hSw;clear hSw;go_simp
     simp only [Act.put,List.setIfInBounds_toArray,List.set_cons_zero,List.set_cons_succ]
     refine wpAnyH_done (by kernel_rfl) ?_ _
     refine NoPanic.normal ?_
     clear hHeld
     have Kz6:Hid (Kp W9 z5 Nul):=Kz2.out.trans Kz5.out
     have qX1:z5.cell? ⟨w.heap.size,1,none⟩=some (.int .i64 x1):=(LX.out z5 Kz6.out).cell rfl
     have hp1:=pkf_lt x1 99 (by decide)
     have hs1:wrap64 (257+(pkf x1 99:Int))=257+(pkf x1 99:Int):=by unfold wrap64;omega
     clear HA1 HA2 HPn1 HPn2
     go_wp2_with fail
     refine (HPk1.out 99 _ (by decide)).mono ?_
     rintro e z7 ⟨rfl,hz⟩
     rw [hz]
     clear hz qX1
     go_wp2_with fail
     refine (cols_bad (257+(pkf x1 99:Int)) 1 g L z5 (LG.out _ Kz6.out) HOk.out (HV.out.kp (LK.out.trans Kz6.out)) (fun h=>by have:=h.hi;simp at this;omega)).mono ?_
     rintro e z8 ⟨rfl,hk⟩
     have Kz8:Hid (Kp W9 z8 Nul):=Kz6.out.trans hk
     have qX2:z8.cell? ⟨w.heap.size,2,none⟩=some (.int .i64 x2):=(LX.out z8 Kz8.out).cell rfl
     have hp2:=pkf_lt x2 99 (by decide)
     have hs2:wrap64 (-257 - (pkf x2 99:Int))=-257 - (pkf x2 99:Int):=by unfold wrap64;omega
     clear hk hp1 hs1
     go_wp2_with fail
     refine (HPk2.out 99 _ (by decide)).mono ?_
     rintro e z9 ⟨rfl,hz⟩
     rw [hz]
     clear hz qX2
     go_wp2_with fail
     refine (cols_bad 1 (-257 - (pkf x2 99:Int)) g L z8 (LG.out _ Kz8.out) HOk.out (HV.out.kp (LK.out.trans Kz8.out)) (fun h=>by have:=h.nl;simp at this;omega)).mono ?_
     rintro e za ⟨rfl,hk⟩
     have Kza:Hid (Kp W9 za Nul):=Kz8.out.trans hk
     have HEq:Hid (Calls Tryz.prog 24 #[.pointer (some ⟨g,0,none⟩),.pointer (some ⟨w2.heap.size,0,none⟩)] za fun e w'=>e=.returned (.bool true)∧Kp za w' Nul):=by
      have h:=equal_at g w2.heap.size L Lw za (LG.out _ Kza.out) (LW.out _ Kza.out) HOk.out.okC (ok_same HOk.out HOw.out HMw.out).okC
      rw [eqC_true (same_eqC HOn.out HOw.out (fun x=>(HMw.out x).symm))] at h
      exact h
     clear hk hp2 hs2
     go_wp2_with fail
     refine HEq.out.mono ?_
     rintro e zb ⟨rfl,hk⟩
     have Kzb:Hid (Kp w zb Nul):=(LK.out.trans Kza.out).trans hk
     clear hk
     go_wp2_with fail
     go_ret
     first
     | exact ⟨rfl,Kzb.out⟩
     | exact Kzb.out
    ·obtain ⟨rfl,rfl⟩:=hp.no hr
     clear hg4 hp hkm hr HGh HOkh
     obtain ⟨y9,hy9⟩:∃ y9,y4=y9:=⟨_,rfl⟩
     have Ky9:Hid (Kp W9 y9 Nul):=by show Kp _ _ _;rw [← hy9];exact Ky4.out
     have qX1:y9.cell? ⟨w.heap.size,1,none⟩=some (.int .i64 x1):=(LX.out y9 Ky9.out).cell rfl
     rw [hy9]
     clear hy9
     have hp9:=pkf_lt x1 9 (by decide)
     have hneg:wrap64 (-(pkf x1 9:Int))=-(pkf x1 9:Int):=by unfold wrap64;omega
     have hneg2:IntKind.i64.wrap (-(pkf x1 9:Int))=-(pkf x1 9:Int):=by rw [IntKind.wrap_i64];omega
     go_wp2_with fail
     refine (HPk1.out 9 _ (by decide)).mono ?_
     rintro e z1 ⟨rfl,hz⟩
     rw [hz]
     clear hz qX1
     go_wp2_with fail
     refine (rows_bad (-(pkf x1 9:Int)) 1 g L y9 (LG.out _ Ky9.out) HOk.out (HV.out.kp (LK.out.trans Ky9.out)) (fun h=>by have:=h.lo;omega)).mono ?_
     rintro e z2 ⟨rfl,hk⟩
     have Kz2:Hid (Kp W9 z2 Nul):=Ky9.out.trans hk
     clear hk hp9 hneg hneg2
     go_upto_region 32 with fail
     have HPn1:Hid (∀ m w,1≤m→Calls Tryz.prog 28 #[.int .i64 x1,.int .i64 m] w fun e w'=>e=.returned (.int .i64 (pkf x1 m))∧Kp w w' Nul):=fun m w h=>(HPk1.out m w h).mono fun e w' q=>⟨q.1,by rw [q.2];exact Kp.refl _ _⟩
     have HPn2:Hid (∀ m w,1≤m→Calls Tryz.prog 28 #[.int .i64 x2,.int .i64 m] w fun e w'=>e=.returned (.int .i64 (pkf x2 m))∧Kp w w' Nul):=fun m w h=>(HPk2.out m w h).mono fun e w' q=>⟨q.1,by rw [q.2];exact Kp.refl _ _⟩
     have HA1:Hid (IntKind.i64.wrap (1+(pkf x1 4096:Int))=1+(pkf x1 4096:Int)):=by show IntKind.i64.wrap _=_;rw [IntKind.wrap_i64];have:=pkf_lt x1 4096 (by decide);omega
     have HA2:Hid (IntKind.i64.wrap (4097+(pkf x2 99:Int))=4097+(pkf x2 99:Int)):=by show IntKind.i64.wrap _=_;rw [IntKind.wrap_i64];have:=pkf_lt x2 99 (by decide);omega
     refine wp_region_noPanic ?_
     refine wp_region_hel (fun w':World=>Kp z2 w' Nul) (by kernel_rfl) ((Kp.refl _ _).drew) (fun hHeld=>?_)
     refine wpH_takes (i:=0) (v:=.pointer (some ⟨g,0,none⟩)) (some 269) rfl rfl (by kernel_rfl) (by kernel_rfl) (by kernel_rfl) (fun _ _ _ h=>h) (Or.inl ⟨by rfl,?_⟩) hHeld ?_
     ·intro w' hSw;clear hSw;go_simp
     simp only [Act.put,List.setIfInBounds_toArray,List.set_cons_zero,List.set_cons_succ]
     refine wpH_takes (i:=1) (v:=.pointer (some ⟨w.heap.size,1,none⟩)) (some 270) rfl rfl (by kernel_rfl) (by kernel_rfl) (by kernel_rfl) (fun _ _ _ h=>h) (Or.inl ⟨by rfl,?_⟩) hHeld ?_
     ·intro w' hSw;clear hSw;go_simp
     simp only [Act.put,List.setIfInBounds_toArray,List.set_cons_zero,List.set_cons_succ]
     refine wpH_takes (i:=2) (v:=.int .i64 x1) (some 271) rfl rfl (by kernel_rfl) (by kernel_rfl) (by kernel_rfl) (fun _ _ _ h=>h) (Or.inl ⟨by rfl,?_⟩) hHeld ?_
     ·intro w' hSw;have s0:=(LX.out w' (Kz2.out.trans hSw)).cell (i:=1) rfl;clear hSw;go_simp
     simp only [Act.put,List.setIfInBounds_toArray,List.set_cons_zero,List.set_cons_succ]
     refine wpH_takes (i:=5) (v:=.pointer (some ⟨w.heap.size,2,none⟩)) (some 274) rfl rfl (by kernel_rfl) (by kernel_rfl) (by kernel_rfl) (fun _ _ _ h=>h) (Or.inl ⟨by rfl,?_⟩) hHeld ?_
     ·intro w' hSw;clear hSw;go_simp
     simp only [Act.put,List.setIfInBounds_toArray,List.set_cons_zero,List.set_cons_succ]
     refine wpH_takes (i:=6) (v:=.int .i64 x2) (some 275) rfl rfl (by kernel_rfl) (by kernel_rfl) (by kernel_rfl) (fun _ _ _ h=>h) (Or.inl ⟨by rfl,?_⟩) hHeld ?_
     ·intro w' hSw;have s0:=(LX.out w' (Kz2.out.trans hSw)).cell (i:=2) rfl;clear hSw;go_simp
     simp only [Act.put,List.setIfInBounds_toArray,List.set_cons_zero,List.set_cons_succ]
     refine wpH_step (i:=3) (by kernel_rfl) rfl rfl (fun K hK=>?_)
     go_simp
     refine (HPn1.out 4096 _ (by decide)).mono ?_
     rintro e z3 ⟨rfl,hk2⟩
     have Kz3:Hid (Kp z2 z3 Nul):=((Kp.refl z2 Nul).drew).trans hk2
     refine hK.out _ _ Kz3.out (fun hHeld=>?_)
     clear hK K hk2
     (try simp only [Act.put,List.setIfInBounds_toArray,List.set_cons_zero,List.set_cons_succ])
     refine wpH_takes (i:=4) (v:=.int .i64 (1+(pkf x1 4096:Int))) (some 273) rfl rfl (by kernel_rfl) (by kernel_rfl) (by kernel_rfl) (fun _ _ _ h=>h) (Or.inl ⟨by rfl,?_⟩) hHeld ?_
     ·intro w' hSw;have s0:=HA1.out;clear hSw;go_simp
     simp only [Act.put,List.setIfInBounds_toArray,List.set_cons_zero,List.set_cons_succ]
     refine wpH_step (i:=7) (by kernel_rfl) rfl rfl (fun K hK=>?_)
     go_simp
     refine (HPn2.out 99 _ (by decide)).mono ?_
     rintro e z4 ⟨rfl,hk2⟩
     have Kz4:Hid (Kp z2 z4 Nul):=Kz3.out.trans hk2
     refine hK.out _ _ Kz4.out (fun hHeld=>?_)
     clear hK K hk2
     (try simp only [Act.put,List.setIfInBounds_toArray,List.set_cons_zero,List.set_cons_succ])
     refine wpH_takes (i:=8) (v:=.int .i64 (4097+(pkf x2 99:Int))) (some 277) rfl rfl (by kernel_rfl) (by kernel_rfl) (by kernel_rfl) (fun _ _ _ h=>h) (Or.inl ⟨by rfl,?_⟩) hHeld ?_
     ·intro w' hSw;have s0:=HA2.out;clear hSw;go_simp
     simp only [Act.put,List.setIfInBounds_toArray,List.set_cons_zero,List.set_cons_succ]
     refine wpH_step (i:=9) (by kernel_rfl) rfl rfl (fun K hK=>?_)
     go_simp
     refine (rows_bad (1+(pkf x1 4096:Int)) (4097+(pkf x2 99:Int)) g L z4 (LG.out _ (Kz2.out.trans Kz4.out)) HOk.out (HV.out.kp (LK.out.trans (Kz2.out.trans Kz4.out))) (fun h=>by have:=h.nh;simp at this;omega)).mono ?_
     rintro e z5 ⟨rfl,hk2⟩
     have Kz5:Hid (Kp z2 z5 Nul):=Kz4.out.trans hk2
     refine hK.out _ _ Kz5.out (fun hHeld=>?_)
     clear hK K hk2
     (try simp only [Act.put,List.setIfInBounds_toArray,List.set_cons_zero,List.set_cons_succ])
     refine wpH_takes (i:=10) (v:=.tuple #[.pointer none,.int .i64 1]) (some 268) rfl rfl (by kernel_rfl) (by kernel_rfl) (by kernel_rfl) (fun _ _ _ h=>h) (Or.inl ⟨by rfl,?_⟩) hHeld ?_
     ·intro w' hSw;clear hSw;go_simp
     simp only [Act.put,List.setIfInBounds_toArray,List.set_cons_zero,List.set_cons_succ]
     refine wpH_takes (i:=11) (v:=.pointer none) (some 279) rfl rfl (by kernel_rfl) (by kernel_rfl) (by kernel_rfl) (fun _ _ _ h=>h) (Or.inl ⟨by rfl,?_⟩) hHeld ?_
     ·intro w' hSw;clear hSw;go_simp
     simp only [Act.put,List.setIfInBounds_toArray,List.set_cons_zero,List.set_cons_succ]
     refine wpH_takes (i:=12) (v:=.int .i64 1) (some 280) rfl rfl (by kernel_rfl) (by kernel_rfl) (by kernel_rfl) (fun _ _ _ h=>h) (Or.inl ⟨by rfl,?_⟩) hHeld ?_
     ·intro w' hSw;clear hSw;go_simp
     simp only [Act.put,List.setIfInBounds_toArray,List.set_cons_zero,List.set_cons_succ]
     refine wpH_takes (i:=13) (v:=.pointer none) (some 36) rfl rfl (by kernel_rfl) (by kernel_rfl) (by kernel_rfl) (fun _ _ _ h=>h) (Or.inl ⟨by rfl,?_⟩) hHeld ?_
     ·intro w' hSw;clear hSw;go_simp
     simp only [Act.put,List.setIfInBounds_toArray,List.set_cons_zero,List.set_cons_succ]
     refine wpH_takes (i:=14) (v:=.int .i64 1) (some 37) rfl rfl (by kernel_rfl) (by kernel_rfl) (by kernel_rfl) (fun _ _ _ h=>h) (Or.inl ⟨by rfl,?_⟩) hHeld ?_
     ·intro w' hSw;clear hSw;go_simp
     simp only [Act.put,List.setIfInBounds_toArray,List.set_cons_zero,List.set_cons_succ]
     refine wpAnyH_done (by kernel_rfl) ?_ _
     refine NoPanic.normal ?_
     clear hHeld
     have Kz6:Hid (Kp W9 z5 Nul):=Kz2.out.trans Kz5.out
     have qX1:z5.cell? ⟨w.heap.size,1,none⟩=some (.int .i64 x1):=(LX.out z5 Kz6.out).cell rfl
     have hp1:=pkf_lt x1 99 (by decide)
     have hs1:wrap64 (257+(pkf x1 99:Int))=257+(pkf x1 99:Int):=by unfold wrap64;omega
     clear HA1 HA2 HPn1 HPn2
     go_wp2_with fail
     refine (HPk1.out 99 _ (by decide)).mono ?_
     rintro e z7 ⟨rfl,hz⟩
     rw [hz]
     clear hz qX1
     go_wp2_with fail
     refine (cols_bad (257+(pkf x1 99:Int)) 1 g L z5 (LG.out _ Kz6.out) HOk.out (HV.out.kp (LK.out.trans Kz6.out)) (fun h=>by have:=h.hi;simp at this;omega)).mono ?_
     rintro e z8 ⟨rfl,hk⟩
     have Kz8:Hid (Kp W9 z8 Nul):=Kz6.out.trans hk
     have qX2:z8.cell? ⟨w.heap.size,2,none⟩=some (.int .i64 x2):=(LX.out z8 Kz8.out).cell rfl
     have hp2:=pkf_lt x2 99 (by decide)
     have hs2:wrap64 (-257 - (pkf x2 99:Int))=-257 - (pkf x2 99:Int):=by unfold wrap64;omega
     clear hk hp1 hs1
     go_wp2_with fail
     refine (HPk2.out 99 _ (by decide)).mono ?_
     rintro e z9 ⟨rfl,hz⟩
     rw [hz]
     clear hz qX2
     go_wp2_with fail
     refine (cols_bad 1 (-257 - (pkf x2 99:Int)) g L z8 (LG.out _ Kz8.out) HOk.out (HV.out.kp (LK.out.trans Kz8.out)) (fun h=>by have:=h.nl;simp at this;omega)).mono ?_
     rintro e za ⟨rfl,hk⟩
     have Kza:Hid (Kp W9 za Nul):=Kz8.out.trans hk
     have HEq:Hid (Calls Tryz.prog 24 #[.pointer (some ⟨g,0,none⟩),.pointer (some ⟨w2.heap.size,0,none⟩)] za fun e w'=>e=.returned (.bool true)∧Kp za w' Nul):=by
      have h:=equal_at g w2.heap.size L Lw za (LG.out _ Kza.out) (LW.out _ Kza.out) HOk.out.okC (ok_same HOk.out HOw.out HMw.out).okC
      rw [eqC_true (same_eqC HOn.out HOw.out (fun x=>(HMw.out x).symm))] at h
      exact h
     clear hk hp2 hs2
     go_wp2_with fail
     refine HEq.out.mono ?_
     rintro e zb ⟨rfl,hk⟩
     have Kzb:Hid (Kp w zb Nul):=(LK.out.trans Kza.out).trans hk
     clear hk
     go_wp2_with fail
     go_ret
     first
     | exact ⟨rfl,Kzb.out⟩
     | exact Kzb.out
end Go.Proofs.YtecjfnkakodebaaGreatDoor
