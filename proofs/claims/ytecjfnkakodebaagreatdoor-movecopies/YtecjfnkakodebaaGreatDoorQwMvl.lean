/-Move: brought: how far the range has come. -/
import Derived.Test.YtecjfnkakodebaaGreatDoorQwMvg
set_option maxRecDepth 20000
set_option maxHeartbeats 40000000
namespace Go.Proofs.YtecjfnkakodebaaGreatDoor
open Go.RowKit Go.Maps
theorem GridIn.lows {w:World} {F:Nat->Prop} {g:Nat} {L:List Cc} (h:GridIn w F g L):GridIn w (fun b=>F b/\b<w.heap.size) g L:=by
 obtain⟨hF,⟨hb,e⟩|⟨m,D,hb,hm',hne,hown,hm⟩⟩:=h
 ·exact⟨⟨hF,(Array.getElem?_eq_some_iff.1 hb).1⟩,.inl ⟨hb,e⟩⟩
 ·exact⟨⟨hF,(Array.getElem?_eq_some_iff.1 hb).1⟩,.inr ⟨m,D,hb,⟨hm',hown.lt⟩,hne,hown,⟨hm.size,hm.rng,hm.keys,fun c r ct hc=>by obtain⟨sl,e1,e2⟩:=hm.vals c r ct hc;exact⟨sl,e1,e2.mono (fun b hF hb=>⟨rfl,hF,hb⟩)⟩,hm.once⟩⟩⟩
theorem GridIn.far' {w w':World} {F S:Nat->Prop} {g:Nat} {L:List Cc} (h:GridIn w F g L) (k:Kp w w' S) (hS:∀i,F i->¬S i):GridIn w' F g L:=by
 obtain⟨hF,⟨hb,e⟩|⟨m,D,hb,hm',hne,hown,hm⟩⟩:=h
 ·exact⟨hF,.inl ⟨(k.block g (Array.getElem?_eq_some_iff.1 hb).1 (hS g hF)).trans hb,e⟩⟩
 ·exact⟨hF,.inr ⟨m,D,(k.block g (Array.getElem?_eq_some_iff.1 hb).1 (hS g hF)).trans hb,hm',hne,ownsMap_block hown (k.block m hown.lt (hS m hm')),⟨hm.size,hm.rng,hm.keys,fun c r ct hc=>by obtain⟨sl,e1,e2⟩:=hm.vals c r ct hc;exact⟨sl,e1,e2.kp k hS⟩,hm.once⟩⟩⟩
theorem GridIn.once' {w:World} {F:Nat->Prop} {g:Nat} {L:List Cc} (h:GridIn w F g L):L.Pairwise (fun x y=>x.1≠y.1):=by
 obtain⟨_,⟨_,rfl⟩|⟨m,D,_,_,_,_,hm⟩⟩:=h
 ·exact List.Pairwise.nil
 ·exact hm.once
def lostB (f:Fate) (L:List Cc):Bool:=L.any fun x=>(f (x.1,x.1)).isNone
structure BrI (f:Fate) (w:World) (B xc xr:Nat) (cols:Bool) (at' n:Int) (g2:Nat) (K:List Cc) (k:Nat) (Z:Nat->Prop) (W:World) (M:List Cc):Prop where
 gi:GridIn W (fun i=>Z i/\i≠w.heap.size+1+1) g2 M
 ok:Ok17 M
 len:M.length<=k
 mem:∀y,y∈M↔y∈brL f (K.take k)
 lo:Blk W (w.heap.size+1+1) [.bool (lostB f (K.take k))] 4
 oth:Blk W (w.heap.size+1) [.pointer (some ⟨g2,0,none⟩)] 24
 fb:Blk W w.heap.size [fateF xc xr] 115
 kept:KeptIn W xc xr cols at' n
 kp:Kp w W Nul
 zl:∀i,Z i->i<W.heap.size/\(i=w.heap.size+1+1∨i=g2∨B+2<=i)
 z2:Z (w.heap.size+1+1)
 hB:w.heap.size+3<=g2/\g2<B/\xc<B/\xr<B
section
variable {f:Fate} {w W W':World} {B xc xr:Nat} {cols:Bool} {at' n:Int} {g2:Nat} {K:List Cc} {k:Nat} {Z:Nat->Prop} {M:List Cc}
theorem BrI.far {S:Nat->Prop} (h:BrI f w B xc xr cols at' n g2 K k Z W M) (g:Kp W W' S) (hZ:∀i,Z i->¬S i) (hb:∀i,i<B->S i->False):BrI f w B xc xr cols at' n g2 K k Z W' M:=by
 obtain⟨h1,h2,h3,h4⟩:=h.hB
 exact⟨h.gi.far' g (fun i hi=>hZ i hi.1),h.ok,h.len,h.mem,h.lo.kp g (fun e=>hb _ (by omega) e),h.oth.kp g (fun e=>hb _ (by omega) e),h.fb.kp g (fun e=>hb _ (by omega) e),⟨h.kept.c.kp g (fun e=>hb _ h3 e),h.kept.r.kp g (fun e=>hb _ h4 e)⟩,h.kp.trans' g (fun i hi e=>hb i (by omega) e),fun i hi=>⟨Nat.lt_of_lt_of_le (h.zl i hi).1 g.size,(h.zl i hi).2⟩,h.z2,h.hB⟩
theorem BrI.nul (h:BrI f w B xc xr cols at' n g2 K k Z W M) (g:Kp W W' Nul):BrI f w B xc xr cols at' n g2 K k Z W' M:=h.far g (fun _ _ q=>q) (fun _ _ q=>q)
theorem take_snoc {x:Cc} (hx:K[k]? = some x):K.take (k+1)=K.take k++[x]:=by rw[List.take_add_one,hx];rfl
theorem brL_snoc (f:Fate) (L:List Cc) (x:Cc) (y:Cc):y∈brL f (L++[x])↔y∈brL f L∨∃b,f (x.1,x.1)=some b/\y=(b.1,alC f x.2):=by
 rw[brL_mem,brL_mem]
 constructor
 ·rintro⟨z,hz,b,h1,h2⟩
  rcases List.mem_append.1 hz with hz|hz
  ·exact .inl ⟨z,hz,b,h1,h2⟩
  ·rw[List.mem_singleton] at hz;subst hz;exact .inr ⟨b,h1,h2⟩
 ·rintro(⟨z,hz,b,h1,h2⟩|⟨b,h1,h2⟩)
  ·exact⟨z,List.mem_append_left _ hz,b,h1,h2⟩
  ·exact⟨x,List.mem_append_right _ (List.mem_singleton.2 rfl),b,h1,h2⟩
theorem BrI.lose {x:Cc} (h:BrI f w B xc xr cols at' n g2 K k Z W M) (hx:K[k]? = some x) (hf:f (x.1,x.1)=none) (g:Kp W W' (fun i=>i=w.heap.size+1+1)) (hb:Blk W' (w.heap.size+1+1) [.bool true] 4):BrI f w B xc xr cols at' n g2 K (k+1) Z W' M:=by
 obtain⟨h1,h2,h3,h4⟩:=h.hB
 have nz:∀ {b:Nat} {cs:List Value} {t:TypeId},Blk W b cs t->t ≠ 4->¬b=w.heap.size+1+1:=fun {b cs t} hb ht e=>by
  have q1:=h.lo
  unfold Blk at hb q1
  rw[e,q1] at hb
  simp only[Option.some.injEq,Obj.cells.injEq] at hb
  exact ht hb.2.1.symm
 have hgi:GridIn W' (fun i=>Z i/\i≠w.heap.size+1+1) g2 M:=h.gi.far' g (fun i hi e=>hi.2 e)
 refine⟨hgi,h.ok,Nat.le_succ_of_le h.len,fun y=>?_,?_,h.oth.kp g (nz h.oth (by decide)),h.fb.kp g (nz h.fb (by decide)),⟨h.kept.c.kp g (nz h.kept.c (by decide)),h.kept.r.kp g (nz h.kept.r (by decide))⟩,h.kp.trans' g (fun i hi e=>by have e':i=w.heap.size+1+1:=e;omega),fun i hi=>⟨Nat.lt_of_lt_of_le (h.zl i hi).1 g.size,(h.zl i hi).2⟩,h.z2,h.hB⟩
 ·rw[take_snoc hx,brL_snoc,h.mem y]
  constructor
  ·exact .inl
  ·rintro(q|⟨b,q,_⟩)
   ·exact q
   ·rw[hf] at q;cases q
 ·have:lostB f (K.take (k+1))=true:=by
   rw[take_snoc hx]
   unfold lostB
   rw[List.any_append]
   simp[hf]
  rw[this];exact hb
theorem BrI.put {x:Cc} {b:Ar4} {V X:World} {M':List Cc} {er:Int} (h:BrI f w B xc xr cols at' n g2 K k Z V M) (hf:FateOk f) (hi:FateInj f) (hx:K[k]? = some x) (hb:f (x.1,x.1)=some b) (hK:Strict (K.map (·.1))) (hKl:K.length<=4096) (hKv:∀y∈K,vC y.1.1 y.1.2=true) (hKg:∀y∈K,Gd y.2)
  (hBV:B+2<=V.heap.size) (hg:GridIn X (fun i=>(Z i/\i≠w.heap.size+1+1)∨V.heap.size<=i) g2 M') (hp:PutR M b.1.1 b.1.2 (alC f x.2) er M') (km:Km g2 V X) :
  ∃Z',BrI f w B xc xr cols at' n g2 K (k+1) Z' X M'/\∀i,Z' i->Z i∨V.heap.size<=i:=by
 have hk:k<K.length:=(List.getElem?_eq_some_iff.1 hx).1
 have hxm:=List.mem_of_getElem? hx
 obtain⟨h1,h2,h3,h4⟩:=h.hB
 have hvb:vC b.1.1 b.1.2=true:=fate_vC hf (hKv x hxm) hb
 have hgd:=alC_gd hf (hKg x hxm)
 obtain⟨_,rfl⟩:=hp.put hvb hgd.val hgd.k (.inl (by have:=h.len;omega))
 rw[hgd.cp] at hg ⊢
 have hM:∀y∈M,y.1≠b.1:=fun y hy e=>by
  obtain⟨z,hz,b',e1,rfl⟩:=brL_mem.1 ((h.mem y).1 hy)
  have hzK:=List.mem_of_mem_take hz
  have hne:z.1≠x.1:=by
   intro e
   obtain⟨t,ht⟩:=List.mem_iff_getElem?.1 hz
   rw[List.getElem?_take] at ht
   split at ht
   ·rename_i htl
    obtain⟨l1,q1⟩:=List.getElem?_eq_some_iff.1 ht
    obtain⟨l2,q2⟩:=List.getElem?_eq_some_iff.1 hx
    have hs:=List.pairwise_iff_getElem.1 (List.pairwise_map.1 hK) t k l1 l2 htl
    rw[q1,q2,e] at hs
    rw[swoA.irrefl] at hs
    cases hs
   ·cases ht
  exact hi z.1 x.1 b' b (hKv z hzK) (hKv x hxm) hne e1 hb e
 have gi0:GI 0 V g2 M:=GridIn.mono h.gi (fun _ _=>Nat.zero_le _)
 have hok:Ok17 (putL M b.1 (alC f x.2)):=h.ok.put h.gi.once' hvb hgd (.inl (by have:=h.len;omega))
 refine⟨fun i=>(Z i∨V.heap.size<=i)/\i<X.heap.size,⟨hg.lows.mono (fun i hi=>⟨⟨hi.1.imp (fun q=>q.1) id,hi.2⟩,hi.1.elim (fun q=>q.2) (fun q=>by omega)⟩),hok,?_,fun y=>?_,?_,km.blk h.oth (by omega),km.blk h.fb (by omega),⟨km.blk h.kept.c (fun e=>?_),km.blk h.kept.r (fun e=>?_)⟩,?_,fun i hi=>⟨hi.2,?_⟩,⟨.inl h.z2,?_⟩,h.hB⟩,fun i hi=>hi.1⟩
 ·unfold putL
  have q:=List.length_filter_le (fun y:Cc=>decide (y.1≠b.1)) M
  have:=h.len
  rw[List.length_cons]
  exact Nat.succ_le_succ (Nat.le_trans q this)
 ·rw[putL_mem,take_snoc hx,brL_snoc,h.mem y]
  constructor
  ·rintro(q|⟨q,_⟩)
   ·exact .inr ⟨b,hb,q⟩
   ·exact .inl q
  ·rintro(q|⟨b',q1,q2⟩)
   ·exact .inr ⟨q,hM y ((h.mem y).2 q)⟩
   ·rw[hb] at q1
    injection q1 with q1
    subst q1
    exact .inl q2
 ·have e:lostB f (K.take (k+1))=lostB f (K.take k):=by
   rw[take_snoc hx]
   unfold lostB
   rw[List.any_append]
   simp[hb]
  rw[e]
  exact km.blk h.lo (by omega)
 ·have q1:=h.kept.c
  obtain⟨mv,q2⟩:=gi0.blk
  rw[e] at q1
  unfold Blk at q1 q2
  rw[q1] at q2
  simp only[Option.some.injEq,Obj.cells.injEq] at q2
  exact absurd q2.2.1 (by decide)
 ·have q1:=h.kept.r
  obtain⟨mv,q2⟩:=gi0.blk
  rw[e] at q1
  unfold Blk at q1 q2
  rw[q1] at q2
  simp only[Option.some.injEq,Obj.cells.injEq] at q2
  exact absurd q2.2.1 (by decide)
 ·refine h.kp.trans' km.kp (fun i hi' e=>?_)
  rcases e with e|⟨e,_⟩
  ·omega
  ·obtain⟨hF,⟨hb',_⟩|⟨m,D,hb',hm',_⟩⟩:=h.gi
   ·rw[hb'] at e;simp at e
   ·rw[hb'] at e
    have em:m=i:=by simpa using e
    subst em
    rcases(h.zl m hm'.1).2 with q|q|q <;> omega
 ·rcases hi.1 with q|q
  ·exact(h.zl i q).2
  ·exact .inr (.inr (by omega))
 ·exact(km.blk h.lo (by omega)).lt
end
end Go.Proofs.YtecjfnkakodebaaGreatDoor
namespace Go.Proofs.YtecjfnkakodebaaGreatDoor
open Go.RowKit Go.Maps Go.Sort Go.Lib Go.Shelf
attribute [local go_sem] Oper.semAt_some
theorem loadIn_row {F:Fence} {n:Nat} {ops:Array Oper} {rest:List Oper} {o:Oper} {a:Act} {w:World} {Q:Exit->Act->World->Prop} (hgd:Region.wanted o (yielded ops a.tmps)=true) (ty:TypeId) (x:Operand) (ho:o.op=.load ty x) (b p:Nat) (hx:a.eval x=.pointer (some ⟨b,p,none⟩)) (cs:List Value) (d:TypeDesc) (hc:w.rangeAt b p cs) (hu:Tryz.prog.underlying ty=some d) (hd:d.isRow=true) (hi:(Tryz.prog.info? ty).map (·.size)=some cs.length)
  (h:wpListIn F n Tryz.prog ops Q rest (a.put o.dst (.agg cs.toArray)) w):wpListIn F n Tryz.prog ops Q (o::rest) a w:=
 wpInV hgd (by simp[Oper.about,ho]) (fun c hc'=>by rw[ho] at hc';cases hc') (exec_load_row ty x ho b p hx cs d hc hu hd hi) h
theorem storeIn_part {F:Fence} {n:Nat} {ops:Array Oper} {rest:List Oper} {o:Oper} {a:Act} {w:World} {Q:Exit->Act->World->Prop} (hgd:Region.wanted o (yielded ops a.tmps)=true) (ty:TypeId) (x y:Operand) (ho:o.op=.store ty x y)
  (b p:Nat) (pre mid post cs:List Value) (t:TypeId) (hb:Blk w b (pre++mid++post) t) (hpo:pre.length=p) (hml:mid.length=cs.length) (hx:a.eval x=.pointer (some ⟨b,p,none⟩)) (hy:a.eval y=.agg cs.toArray)
  (hi:(Tryz.prog.info? ty).map (·.size)=some cs.length) (h1:cs.toArray.all (·.oneCell')=true)
  (h:∀W,Blk W b (pre++cs++post) t->Kp w W (fun i=>i=b)->wpListIn F n Tryz.prog ops Q rest (a.put o.dst undef) W):wpListIn F n Tryz.prog ops Q (o::rest) a w:=by
 subst hpo
 have hb':w.heap[b]? = some (.cells (pre++mid++post).toArray t (0,0)):=hb
 have hs:=run_storeVar_mid (P:=Tryz.prog) w b pre.length ty cs.toArray (there_of_block hb' _ _ (by simp;omega)) (by rw[hi];simp) h1
 refine wpInS hgd (by simp[Oper.about,ho]) (fun c hc'=>by rw[ho] at hc';cases hc') (w':=w.setCells b pre.length cs) ?_ (h _ ?_ (setCells_kp (fun i=>i=b) rfl _ _ _))
 ·unfold execOp
  simp only[ho,hx,hy,Instr.storeAt,Instr.sureAddr,Sem.run_bind,Sem.run_pure,Result.andThen_ok,hs]
 ·have:=heap_setCells_at cs pre.length w _ hb'
  rw[setAll_part pre mid post cs hml] at this
  exact this
theorem wp_store_var {o:Oper} {a:Act} {w:World} {K:Act->World->Prop} {Q:Exit->Act->World->Prop} (ty:TypeId) (x y:Operand) (ho:o.op=.store ty x y)
  (b:Nat) (hx:a.eval x=.pointer (some ⟨b,0,none⟩)) (v:Value) (hy:a.eval y=v) (h1:v.oneCell'=true) (t:TypeId) (old:Value) (hb:Blk w b [old] t) (hi:(Tryz.prog.info? ty).map (·.size)=some 1)
  (h:∀W,Blk W b [v] t->Kp w W (fun i=>i=b)->K (a.put o.dst undef) W):o.wp Tryz.prog a w K Q:=by
 subst hy
 unfold Oper.wp execOp
 simp only[ho,hx,Instr.storeAt,Instr.sureAddr,Sem.run_bind,Sem.run_pure,Result.andThen_ok,run_storeVar_one w b t ty old _ hb hi h1]
 refine h _ (setRow_heap w b #[old] #[a.eval y] t (0,0) hb) ⟨rfl,rfl,rfl,?_,fun i _ hn=>?_⟩
 ·unfold World.setRow;simp
 ·unfold World.setRow
  simp only[Array.getElem?_modify]
  rw[if_neg (fun e=>hn e.symm)]
theorem results_cells2 {fn:Func} {p q:Tmp} {ty tz:TypeId} (h:fn.results=#[.cell p ty,.cell q tz]) (tmps:Array Value) (P:Program) (w:World) :
  (results fn tmps).run P w=((asAddr (tmps.getD p undef)).run P w).andThen fun a w1=>((loadVar ty a).run P w1).andThen fun v w2=>((asAddr (tmps.getD q undef)).run P w2).andThen fun b w3=>((loadVar tz b).run P w3).andThen fun u w4=>.ok (.tuple #[v,u]) w4:=by
 simp only[results,h]
 simp[Sem.run_bind,Result.andThen]
theorem BrI.sm {f:Fate} {w W:World} {B xc xr:Nat} {cols:Bool} {at' n:Int} {g2:Nat} {K:List Cc} {k:Nat} {Z:Nat->Prop} {M:List Cc} (h:BrI f w B xc xr cols at' n g2 K k Z W M) {i:Nat} (hs:Sm W g2 i):Z i:=by
 obtain⟨hF,⟨hb',_⟩|⟨m,D,hb',hm',_⟩⟩:=h.gi
 ·rcases hs with rfl|⟨e,_⟩
  ·exact hF.1
  ·rw[hb'] at e;simp at e
 ·rcases hs with rfl|⟨e,_⟩
  ·exact hF.1
  ·rw[hb'] at e
   have em:m=i:=by simpa using e
   rw[<- em];exact hm'.1
theorem wp_store_blk {op:Oper} {a:Act} {w:World} {K:Act->World->Prop} {Q:Exit->Act->World->Prop} (ty:TypeId) (x y:Operand) (ho:op.op=.store ty x y)
  (b:Nat) (old cs:List Value) (t:TypeId) (hb:Blk w b old t) (hml:old.length=cs.length) (hx:a.eval x=.pointer (some ⟨b,0,none⟩)) (hy:a.eval y=.agg cs.toArray)
  (hi:(Tryz.prog.info? ty).map (·.size)=some cs.length) (h1:cs.toArray.all (·.oneCell')=true)
  (h:∀W,Blk W b cs t->Kp w W (fun i=>i=b)->K (a.put op.dst undef) W):op.wp Tryz.prog a w K Q:=by
 have hb':w.heap[b]? = some (.cells old.toArray t (0,0)):=hb
 refine wp_store_mid ty x y ho b 0 cs.toArray hx hy (there_of_block hb' _ _ (by simp;omega)) (by rw[hi];simp) h1 (h _ ?_ (setCells_kp (fun i=>i=b) rfl _ _ _))
 exact heap_setCells_whole hb' (by simpa using hml)
theorem wpH_at {P:Program} {ops:Array Oper} {Q:Exit->Act->World->Prop} {md:Region.Mode} {S:World->Prop} {i:Nat} {o:Oper} {n:Nat} {on:Array Bool} {a:Act} {w:World} (ho:ops[i]? = some o) (hg:o.guard=none)
  (h:∀K':Act->World->Prop,Hid (∀a w,S w->(S w->wpAnyH P md ops Q S n (on.setIfInBounds i true) a w)->K' a w)->o.wp P a w K' Q):wpOp P ops Q i (fun a' w'=>S w'/\wpAnyH P md ops Q S n (on.setIfInBounds i true) a' w') a w:=by
 unfold wpOp
 rw[ho]
 simp only[Region.wanted,hg,if_true]
 exact .inl (h _ (fun a w hS hW=>⟨hS,hW hS⟩))
structure BrR (f:Fate) (L:List Cc) (w w':World) (g2:Nat) (M:List Cc):Prop where
 gi:GridIn w' (fun i=>w.heap.size<=i) g2 M
 ok:Ok17 M
 mem:∀y,y∈M↔y∈brL f L
 lo:w.heap.size<=g2
 kp:Kp w w' Nul
structure DoS (W w':World) (a:Nat) (va:Value) (b:Nat) (vb:Value):Prop where
 ba:Blk w' a [va] 24
 bb:Blk w' b [vb] 4
 kp:Kp W w' (fun i=>i=a∨i=b)
theorem brought_at (xc xr:Nat) (cols:Bool) (at' n:Int) (hl:lnOk cols at' n) (g:Nat) (L:List Cc) (w:World) (hg:GI 0 w g L) (hL:Ok17 L) (hk:KeptIn w xc xr cols at' n) (hv:VS w) :
  Calls Tryz.prog 64 #[.agg #[fateF xc xr],.pointer (some ⟨g,0,none⟩)] w fun e w'=>∃g2 M,e=.returned (.tuple #[.pointer (some ⟨g2,0,none⟩),.bool (lostB (lnF cols at' n) L)])/\BrR (lnF cols at' n) L w w' g2 M:=by
 have HNew:Hid (∀w,Calls Tryz.prog 32 #[] w fun e w'=>e=.returned (.pointer (some ⟨w.heap.size,0,none⟩))/\w'=w.alloc (.cells #[.map none] 96)):=new_at
 have HG:Hid (GI 0 w g L):=hg
 have HOk:Hid (Ok17 L):=hL
 have HV:Hid (VS w):=hv
 have HK:Hid (KeptIn w xc xr cols at' n):=hk
 have HLn:Hid (lnOk cols at' n):=hl
 clear hg hL hv hk hl
 refine(callsIn_wide (n:=12)).1 ?_
 refine callsIn_of_wp_marks Tryz.func64 rfl trivial ?_ rfl
 simp only[Tryz.ntmps64,List.size_toArray,List.length_cons,List.length_nil,Nat.reduceAdd,Nat.reduceSub,Array.replicate_succ,Array.replicate_zero,List.push_toArray,List.append_toArray,List.nil_append,List.cons_append]
 refine wpIn_wide.2 ?_
 go_wp2_with fail
 obtain⟨W0,hW0⟩:∃W0,((w.alloc (.cells #[fateF xc xr] 115)).alloc (.cells #[.pointer none] 24)).alloc (.cells #[.bool false] 4)=W0:=⟨_,rfl⟩
 rw[hW0]
 have s0:W0.heap.size=w.heap.size+3:=by rw[<- hW0,World.size_alloc,World.size_alloc,World.size_alloc]
 have k0:Kp w W0 Nul:=by rw[<- hW0];exact(((Kp.refl w Nul).alloc _).alloc _).alloc _
 have b0:Blk W0 w.heap.size [fateF xc xr] 115:=by rw[<- hW0];exact((Blk.new w _ _).alloc _).alloc _
 have b1:Blk W0 (w.heap.size+1) [.pointer none] 24:=by
  rw[<- hW0]
  have:=Blk.new (w.alloc (.cells #[fateF xc xr] 115)) [.pointer none] 24
  rw[World.size_alloc] at this
  exact this.alloc _
 have b2:Blk W0 (w.heap.size+1+1) [.bool false] 4:=by
  rw[<- hW0]
  have:=Blk.new ((w.alloc (.cells #[fateF xc xr] 115)).alloc (.cells #[.pointer none] 24)) [.bool false] 4
  rw[World.size_alloc,World.size_alloc] at this
  exact this
 clear hW0
 refine(HNew.out W0).mono ?_
 rintro e w1 ⟨rfl,hw1⟩
 have k1:Kp W0 w1 Nul:=by rw[hw1];exact(Kp.refl _ _).alloc _
 have bg1:Blk w1 W0.heap.size [.map none] 96:=by rw[hw1];exact Blk.new W0 [.map none] _
 have hs1:w1.heap.size=w.heap.size+4:=by rw[hw1,World.size_alloc,s0]
 clear hw1
 generalize W0.heap.size=g2 at *
 have HS0:Hid (g2=w.heap.size+3/\w1.heap.size=w.heap.size+4):=⟨s0,hs1⟩
 clear s0 hs1
 have H1:Hid (Blk w1 (w.heap.size+1) [.pointer none] 24):=b1.kp k1 (fun x=>x)
 go_wp2_with (first|(refine wpList_store_var rfl 24 (.tmp 4) (.tmp 10) rfl (w.heap.size+1) rfl (.pointer (some ⟨g2,0,none⟩)) rfl rfl 24 (.pointer none) H1.out (by kernel_rfl) ?_;intro w2 hb2 hk2)|fail)
 have n1:∀ {b:Nat} {cs:List Value} {t:TypeId},Blk w1 b cs t->b≠w.heap.size+1->Blk w2 b cs t:=fun h e=>h.kp hk2 e
 have HF2:Hid (Blk w2 w.heap.size [fateF xc xr] 115):=n1 (b0.kp k1 (fun x=>x)) (by omega)
 have HL2:Hid (Blk w2 (w.heap.size+1+1) [.bool false] 4):=n1 (b2.kp k1 (fun x=>x)) (by omega)
 have HO2:Hid (Blk w2 (w.heap.size+1) [.pointer (some ⟨g2,0,none⟩)] 24):=hb2
 have HG2:Hid (Blk w2 g2 [.map none] 96):=n1 bg1 (by have:=HS0.out.1;omega)
 have HK2:Hid (Kp w w2 Nul):=(k0.trans k1).trans' hk2 (fun i hi e=>by have:i=w.heap.size+1:=e;omega)
 have HAll:Hid (Calls Tryz.prog 34 #[.pointer (some ⟨g,0,none⟩)] w2 fun e w'=>∃x0 x1,e=.returned (.func (.func 97) #[] #[.pointer (some ⟨x0,0,none⟩),.pointer (some ⟨x1,0,none⟩)])/\Blk w' x0 [.pointer (some ⟨g,0,none⟩)] 24/\Blk w' x1 [.int .i64 1,.int .i64 1,.int .i64 256,.int .i64 4096] 34/\Kp w2 w' Nul):=all_at g w2
 clear n1 hb2 hk2 bg1 k0 k1 b0 b1 b2 H1 HNew
 refine HAll.out.mono ?_
 rintro e w3 ⟨x0,x1,rfl,hb0,hb1,hk3⟩
 have HF3:Hid (Blk w3 w.heap.size [fateF xc xr] 115):=HF2.out.kp hk3 (fun x=>x)
 have HL3:Hid (Blk w3 (w.heap.size+1+1) [.bool false] 4):=HL2.out.kp hk3 (fun x=>x)
 have HO3:Hid (Blk w3 (w.heap.size+1) [.pointer (some ⟨g2,0,none⟩)] 24):=HO2.out.kp hk3 (fun x=>x)
 have HG3:Hid (Blk w3 g2 [.map none] 96):=HG2.out.kp hk3 (fun x=>x)
 have HK3:Hid (Kp w w3 Nul):=HK2.out.trans hk3
 have HX0:Hid (Blk w3 x0 [.pointer (some ⟨g,0,none⟩)] 24):=hb0
 have HX1:Hid (Blk w3 x1 [.int .i64 1,.int .i64 1,.int .i64 256,.int .i64 4096] 34):=hb1
 clear hk3 hb0 hb1 HAll HF2 HL2 HO2 HG2 HK2
 go_wp2_with fail
 obtain⟨K,hKs,hKm⟩:=in_order HG.out.once
 have hKl:K.length<=4096:=by
  have:=nodup_le _ (L.map (·.1)) (strict_nodup hKs) (fun x hx=>by
   obtain⟨y,hy,rfl⟩:=List.mem_map.1 hx
   exact List.mem_map.2 ⟨y,(hKm y).1 hy,rfl⟩)
  rw[List.length_map,List.length_map] at this
  have:=HOk.out.len
  omega
 have HKs:Hid (Strict (K.map (·.1))):=hKs
 have HKm:Hid (∀x,x∈K↔x∈L):=hKm
 have HKl:Hid (K.length<=4096):=hKl
 have hgs:g2<w3.heap.size:=HG3.out.lt
 have HGS:Hid (g2<w3.heap.size):=hgs
 have hg2e:=HS0.out.1
 clear hKs hKm hKl
 generalize hact:Act.mk _ _=a0
 refine wp_range_ow2 (α:=(Cc×Value)×List Nat) (N:=K.length) (gf:=97) (lb:=#[.pointer (some ⟨x0,0,none⟩),.pointer (some ⟨x1,0,none⟩)]) (by rw[<- hact];rfl) (enters_of Tryz.func97 (by kernel_rfl) rfl) (encs:=encQ) wtQ (fun _=>rfl) (TellQ w3 K) ?hT (fun i=>i=w.heap.size+1+1∨i=g2) ?hseq (fun k Z W=>∃M,BrI (lnF cols at' n) w w3.heap.size xc xr cols at' n g2 K k Z W M) ?hZ ?hZl ?hI (fun i=>i=w.heap.size+1+1∨i=g2) ?h0 ?hround ?hdone
 case hT=>rintro k x Z W ⟨_,_,_,h⟩;exact⟨fun q=>by have:=(h _ q).1;omega,fun q=>by have:=(h _ q).1;omega⟩
 case hseq=>exact in1_seq2 g x0 x1 w.heap.size L K w3 _ (HG.out.kp HK3.out) (HG.out.low.kp HK3.out) HOk.out.gd HOk.out.at' HOk.out.len HKs.out HKm.out HK3.out.size (fun i e=>by rcases e with e|e <;> omega) HX0.out HX1.out
 case hZ=>
  rintro k Z W ⟨M,h⟩
  exact⟨fun q=>by rcases(h.zl _ q).2 with e|e|e <;> omega,fun q=>by rcases(h.zl _ q).2 with e|e|e <;> omega⟩
 case hZl=>
  rintro k Z W ⟨M,h⟩
  exact⟨fun i hi=>(h.zl i hi).1,fun i hlt hi=>by rcases(h.zl i hi).2 with e|e|e;exact .inl e;exact .inr e;omega⟩
 case hI=>
  rintro k Z W W' ⟨M,h⟩ q
  exact⟨M,h.far q (fun i hi e=>by rcases(h.zl _ hi).2 with q|q|q <;> rcases e with e|e <;> omega) (fun i hi e=>by rcases e with e|e <;> omega)⟩
 case h0=>
  refine⟨[],⟨⟨⟨.inr rfl,by omega⟩,.inl ⟨HG3.out,rfl⟩⟩,Ok17.nil,Nat.zero_le _,fun y=>by simp[brL],?_,HO3.out,HF3.out,HK.out.kp HK3.out,HK3.out,fun i hi=>⟨by rcases hi with e|e <;> omega,by rcases hi with e|e;exact .inl e;exact .inr (.inl e)⟩,.inl rfl,⟨by omega,hgs,?_,?_⟩⟩⟩
  ·exact HL3.out
  ·exact Nat.lt_of_lt_of_le HK.out.c.lt HK3.out.size
  ·exact Nat.lt_of_lt_of_le HK.out.r.lt HK3.out.size
 case hround=>
  subst hact
  rintro k ⟨⟨⟨⟨c,s⟩,a⟩,sl⟩,fp⟩ Z W KK hkN hsW ⟨M,hI⟩ ⟨hKk,hown,hnd,hfz⟩ hcont
  have HI:Hid (BrI (lnF cols at' n) w w3.heap.size xc xr cols at' n g2 K k Z W M):=hI
  have HKk:Hid (K[k]? = some ((c,s),a)):=hKk
  have HOwn:Hid (NdOwn W sl a.t fp):=hown
  have HNd:Hid (fp.Nodup):=hnd
  have HFz:Hid (∀i∈fp,w3.heap.size+2<=i/\¬Z i):=hfz
  have HSW:Hid (w3.heap.size+2<=W.heap.size):=hsW
  have O1:Hid (sl.oneCell'=true):=hown.one
  have HA:Hid (∀(c r:Int) w,Calls Tryz.prog 105 #[.agg #[.int .i64 c,.int .i64 r]] w fun e w'=>e=.returned (.agg #[.int .i64 c,.int .i64 r,.int .i64 c,.int .i64 r])/\Kp w w' Nul):=fun c r w=>alone_at c r w
  clear hI hKk hown hnd hfz hsW hgs hg2e HF3 HL3 HO3 HG3 HX0 HX1
  simp only[List.zip_toArray,List.zip_cons_cons,List.zip_nil_right,List.foldl_toArray',List.foldl_cons,List.foldl_nil]
  gi_wp2_with (first
   | (refine storeIn_new' rfl 50 (.tmp 7) (.tmp 14) rfl _ _ _ _ (by first|rfl|simp) rfl rfl rfl infoContent (a.one O1.out) ?_)
   | fail)
  refine hcont _ _ (((Kp.refl W Nul).alloc _).alloc _) (fun V hV=>?_)
  have hW2:Kp W ((W.alloc (.cells #[.int .i64 c,.int .i64 s] 32)).alloc (.cells (a.cells sl).toArray 50)) Nul:=((Kp.refl W Nul).alloc _).alloc _
  have hWV:Kp W V (fun i=>i=w3.heap.size+1):=(hW2.mono (fun _ _ q=>q.elim)).trans hV
  have HIV:Hid (BrI (lnF cols at' n) w w3.heap.size xc xr cols at' n g2 K k Z V M):=HI.out.far hWV (fun i hi e=>by have e':i=w3.heap.size+1:=e;have:=HGS.out;have:=HS0.out.1;rcases(HI.out.zl i hi).2 with q|q|q <;> omega) (fun i hi e=>by have e':i=w3.heap.size+1:=e;omega)
  have HbA:Hid (Blk V W.heap.size [.int .i64 c,.int .i64 s] 32):=((Blk.new W [.int .i64 c,.int .i64 s] 32).alloc _).kp hV (fun e=>by have e':W.heap.size=w3.heap.size+1:=e;have:=HSW.out;omega)
  have HbC:Hid (Blk V (W.heap.size+1) (a.cells sl) 50):=by
   have h1:=Blk.new (W.alloc (.cells #[.int .i64 c,.int .i64 s] 32)) (a.cells sl) 50
   rw[World.size_alloc] at h1
   exact h1.kp hV (fun e=>by have e':W.heap.size+1=w3.heap.size+1:=e;have:=HSW.out;omega)
  have HVW:Hid (W.heap.size+2<=V.heap.size):=by show _<=_;have:=HbC.out.lt;omega
  have HOwnV:Hid (NdOwn V sl a.t fp):=HOwn.out.mono (fun i hi=>hWV.block i (node_lt (HOwn.out.node i hi)) (fun e=>by have e':i=w3.heap.size+1:=e;have:=(HFz.out i hi).1;omega))
  have HFb:Hid (Blk V w.heap.size [fateF xc xr] 115):=HIV.out.fb
  have hFr:∀wq,Kp V wq Nul->Calls Tryz.prog 144 #[.agg #[.slice (some ⟨xc,0,none⟩) 2 2,.slice (some ⟨xr,0,none⟩) 2 2],.agg #[.int .i64 c,.int .i64 s,.int .i64 c,.int .i64 s]] wq fun e w'=>e=.returned (fateV ((lnF cols at' n) ((c,s),(c,s))))/\Kp wq w' Nul:=fun wq kq=>area_at xc xr cols at' n HLn.out ((c,s),(c,s)) wq (HIV.out.kept.kp kq)
  clear hcont hV hW2 hWV
  cases hR:(lnF cols at' n) ((c,s),(c,s)) with
  | none=>
   rw[hR] at hFr
   have HR:Hid ((lnF cols at' n) ((c,s),(c,s))=none):=hR
   have HFr:Hid (∀wq,Kp V wq Nul->Calls Tryz.prog 144 #[.agg #[.slice (some ⟨xc,0,none⟩) 2 2,.slice (some ⟨xr,0,none⟩) 2 2],.agg #[.int .i64 c,.int .i64 s,.int .i64 c,.int .i64 s]] wq fun e w'=>e=.returned (.tuple #[.agg #[.int .i64 0,.int .i64 0,.int .i64 0,.int .i64 0],.bool false])/\Kp wq w' Nul):=hFr
   clear hR hFr
   gi_wp2_with (fail)
   refine regIn_noPanic ?_
   refine regIn_held (fun w':World=>Kp V w' Nul) (by kernel_rfl) (by kernel_rfl) (noPanic_lets (fun a w h=>Exit.noConfusion (And.left h))) ((Kp.refl _ _).drew) (fun hHeld=>?_)
   refine wpH_takes (i:=0) (v:=?_) (some 16) rfl rfl (by kernel_rfl) (fun _ _ _ h=>h) (Or.inl ⟨by rfl,?_⟩) hHeld ?_
   rotate_left
   ·intro w' hSw;clear hSw;go_simp;try with_reducible rfl
   simp only[Act.put,Sz0,Sz1,Sz2]
   refine wpH_takes (i:=1) (v:=?_) (some 17) rfl rfl (by kernel_rfl) (fun _ _ _ h=>h) (Or.inl ⟨by rfl,?_⟩) hHeld ?_
   rotate_left
   ·intro w' hSw;have s0:=(HFb.out.kp hSw (fun x=>x)).cell (i:=0) rfl;have s1:=(HbA.out.kp hSw (fun x=>x)).cell (i:=0) rfl;have s2:=(HbA.out.kp hSw (fun x=>x)).cell (i:=1) rfl;clear hSw;go_simp;try with_reducible rfl
   simp only[Act.put,Sz0,Sz1,Sz2]
   refine wpH_takes (i:=2) (v:=?_) (some 18) rfl rfl (by kernel_rfl) (fun _ _ _ h=>h) (Or.inl ⟨by rfl,?_⟩) hHeld ?_
   rotate_left
   ·intro w' hSw;have s0:=(HFb.out.kp hSw (fun x=>x)).cell (i:=0) rfl;have s1:=(HbA.out.kp hSw (fun x=>x)).cell (i:=0) rfl;have s2:=(HbA.out.kp hSw (fun x=>x)).cell (i:=1) rfl;clear hSw;go_simp;try with_reducible rfl
   simp only[Act.put,Sz0,Sz1,Sz2]
   refine wpAnyH_all (rs:=[3,8]) (by kernel_rfl) (by simp) (fun j hj=>?_)
   rcases List.mem_cons.1 hj with rfl|hj
   ·clear hj
    refine wpH_at (i:=3) rfl rfl (fun K hK=>?_)
    go_simp
    refine(HA.out c s _).mono ?_
    rintro e wA ⟨rfl,hkA⟩
    have hHA:=hHeld.trans hkA
    refine hK.out _ _ hHA (fun hHeld=>?_)
    clear hK K hkA hHA
    (try simp only[Act.put,Sz0,Sz1,Sz2])
    refine wpAnyH_all (rs:=[4,8]) (by kernel_rfl) (by simp) (fun j hj=>?_)
    rcases List.mem_cons.1 hj with rfl|hj
    ·clear hj
     refine wpH_at (i:=4) rfl rfl (fun K hK=>?_)
     go_simp
     refine(HFr.out _ hHeld).mono ?_
     rintro e wB ⟨rfl,hkB⟩
     have hHB:=hHeld.trans hkB
     refine hK.out _ _ hHB (fun hHeld=>?_)
     clear hK K hkB hHB
     (try simp only[Act.put,Sz0,Sz1,Sz2])
     refine wpH_takes (i:=5) (v:=?_) (some 15) rfl rfl (by kernel_rfl) (fun _ _ _ h=>h) (Or.inl ⟨by rfl,?_⟩) hHeld ?_
     rotate_left
     ·intro w' hSw;clear hSw;go_simp;try with_reducible rfl
     (try simp only[Act.put,Sz0,Sz1,Sz2])
     refine wpH_takes (i:=6) (v:=?_) (some 21) rfl rfl (by kernel_rfl) (fun _ _ _ h=>h) (Or.inl ⟨by rfl,?_⟩) hHeld ?_
     rotate_left
     ·intro w' hSw;clear hSw;go_simp;try with_reducible rfl
     (try simp only[Act.put,Sz0,Sz1,Sz2])
     refine wpH_takes (i:=7) (v:=?_) (some 22) rfl rfl (by kernel_rfl) (fun _ _ _ h=>h) (Or.inl ⟨by rfl,?_⟩) hHeld ?_
     rotate_left
     ·intro w' hSw;clear hSw;go_simp;try with_reducible rfl
     (try simp only[Act.put,Sz0,Sz1,Sz2])
     refine wpH_step (i:=8) (by kernel_rfl) rfl rfl (fun K hK=>?_)
     go_simp
     obtain⟨P,hP⟩:∃P,wB.heap.size=P:=⟨_,rfl⟩
     have HPg:Hid (V.heap.size<=P):=by show _<=_;rw[<- hP];exact hHeld.size
     have HX0:Hid (Blk (wB.alloc (.cells #[.int .i64 0,.int .i64 0,.int .i64 0,.int .i64 0] 34)) P [.int .i64 0,.int .i64 0,.int .i64 0,.int .i64 0] 34):=by show Blk _ _ _ _;rw[<- hP];exact Blk.new _ _ _
     rw[hP]
     clear hP
     obtain⟨wP,hwP⟩:∃wP,wB.alloc (.cells #[.int .i64 0,.int .i64 0,.int .i64 0,.int .i64 0] 34)=wP:=⟨_,rfl⟩
     have hHP:Kp V wP Nul:=by rw[<- hwP];exact hHeld.alloc _
     rw[hwP] at HX0 ⊢
     clear hwP
     have HP3:Hid (Blk wP P [.int .i64 0,.int .i64 0,.int .i64 0,.int .i64 0] 34):=HX0.out
     refine hK.out _ _ hHP (fun hHeld=>?_)
     clear hK K hHP HX0
     (try simp only[Act.put,Sz0,Sz1,Sz2])
     refine wpH_step (i:=9) (by kernel_rfl) rfl rfl (fun K hK=>?_)
     refine wp_store_blk 34 (.tmp 8) (.tmp 21) rfl P [.int .i64 0,.int .i64 0,.int .i64 0,.int .i64 0] [.int .i64 0,.int .i64 0,.int .i64 0,.int .i64 0] 34 HP3.out rfl rfl rfl infoArea (ints4 _ _ _ _) ?_
     intro w9 hb9 hk9
     have HP9:Hid (Blk w9 P [.int .i64 0,.int .i64 0,.int .i64 0,.int .i64 0] 34):=hb9
     have hH9:Kp V w9 Nul:=hHeld.trans' hk9 (fun i hi e=>by have e':i=P:=e;have:=HPg.out;omega)
     have HK9:Hid (Kp V w9 Nul):=hH9
     refine hK.out _ _ hH9 (fun hHeld=>?_)
     clear hK K hb9 hk9 hH9
     (try simp only[Act.put,List.setIfInBounds_toArray])
     refine wpH_takes (i:=10) (v:=?_) (some 9) rfl rfl (by kernel_rfl) (fun _ _ _ h=>h) (Or.inl ⟨by rfl,?_⟩) hHeld ?_
     rotate_left
     ·intro w' hSw;clear hSw;go_simp;try with_reducible rfl
     (try simp only[Act.put])
     refine wpAnyH_done (by kernel_rfl) ?_ _
     refine NoPanic.normal ?_
     clear hHeld
     have HI9:Hid (BrI (lnF cols at' n) w w3.heap.size xc xr cols at' n g2 K k Z w9 M):=HIV.out.nul HK9.out
     have HL9:Hid (Blk w9 (w.heap.size+1+1) [.bool (lostB (lnF cols at' n) (K.take k))] 4):=HI9.out.lo
     gi_wp2_with (first|(refine storeIn_var rfl 4 (.tmp 5) (.const (.bool true)) rfl (w.heap.size+1+1) rfl (.bool true) rfl rfl 4 (.bool (lostB (lnF cols at' n) (K.take k))) HL9.out (by kernel_rfl) ?_;intro X hbX hkX)|fail)
     have HEND:=HI9.out.lose HKk.out HR.out hkX hbX
     have HKX:Kp V X (fun i=>(Z i∨i∈fp)∨W.heap.size<=i):=(HK9.out.mono (fun _ _ q=>q.elim)).trans (hkX.mono (fun i _ e=>.inl (.inl (by rw[show i=(w.heap.size+1+1) from e];exact HI9.out.z2))))
     first
     | exact⟨rfl,HKX,Z,⟨M,HEND⟩,fun i hi=>.inl hi⟩
     | exact⟨HKX,Z,⟨M,HEND⟩,fun i hi=>.inl hi⟩
    ·obtain rfl:=List.mem_singleton.1 hj
     clear hj
     refine wpH_at (i:=8) rfl rfl (fun K hK=>?_)
     go_simp
     obtain⟨P,hP⟩:∃P,wA.heap.size=P:=⟨_,rfl⟩
     have HPg:Hid (V.heap.size<=P):=by show _<=_;rw[<- hP];exact hHeld.size
     have HX0:Hid (Blk (wA.alloc (.cells #[.int .i64 0,.int .i64 0,.int .i64 0,.int .i64 0] 34)) P [.int .i64 0,.int .i64 0,.int .i64 0,.int .i64 0] 34):=by show Blk _ _ _ _;rw[<- hP];exact Blk.new _ _ _
     rw[hP]
     clear hP
     obtain⟨wP,hwP⟩:∃wP,wA.alloc (.cells #[.int .i64 0,.int .i64 0,.int .i64 0,.int .i64 0] 34)=wP:=⟨_,rfl⟩
     have hHP:Kp V wP Nul:=by rw[<- hwP];exact hHeld.alloc _
     rw[hwP] at HX0 ⊢
     clear hwP
     have HP1:Hid (Blk wP P [.int .i64 0,.int .i64 0,.int .i64 0,.int .i64 0] 34):=HX0.out
     refine hK.out _ _ hHP (fun hHeld=>?_)
     clear hK K hHP HX0
     (try simp only[Act.put,Sz0,Sz1,Sz2])
     refine wpH_step (i:=4) (by kernel_rfl) rfl rfl (fun K hK=>?_)
     go_simp
     refine(HFr.out _ hHeld).mono ?_
     rintro e wB ⟨rfl,hkB⟩
     have hHB:=hHeld.trans hkB
     have HP2:Hid (Blk wB P [.int .i64 0,.int .i64 0,.int .i64 0,.int .i64 0] 34):=HP1.out.kp hkB (fun x=>x)
     refine hK.out _ _ hHB (fun hHeld=>?_)
     clear hK K hkB hHB
     (try simp only[Act.put,Sz0,Sz1,Sz2])
     refine wpH_takes (i:=5) (v:=?_) (some 15) rfl rfl (by kernel_rfl) (fun _ _ _ h=>h) (Or.inl ⟨by rfl,?_⟩) hHeld ?_
     rotate_left
     ·intro w' hSw;clear hSw;go_simp;try with_reducible rfl
     (try simp only[Act.put,Sz0,Sz1,Sz2])
     refine wpH_takes (i:=6) (v:=?_) (some 21) rfl rfl (by kernel_rfl) (fun _ _ _ h=>h) (Or.inl ⟨by rfl,?_⟩) hHeld ?_
     rotate_left
     ·intro w' hSw;clear hSw;go_simp;try with_reducible rfl
     (try simp only[Act.put,Sz0,Sz1,Sz2])
     refine wpH_takes (i:=7) (v:=?_) (some 22) rfl rfl (by kernel_rfl) (fun _ _ _ h=>h) (Or.inl ⟨by rfl,?_⟩) hHeld ?_
     rotate_left
     ·intro w' hSw;clear hSw;go_simp;try with_reducible rfl
     (try simp only[Act.put,Sz0,Sz1,Sz2])
     refine wpH_step (i:=9) (by kernel_rfl) rfl rfl (fun K hK=>?_)
     refine wp_store_blk 34 (.tmp 8) (.tmp 21) rfl P [.int .i64 0,.int .i64 0,.int .i64 0,.int .i64 0] [.int .i64 0,.int .i64 0,.int .i64 0,.int .i64 0] 34 HP2.out rfl rfl rfl infoArea (ints4 _ _ _ _) ?_
     intro w9 hb9 hk9
     have HP9:Hid (Blk w9 P [.int .i64 0,.int .i64 0,.int .i64 0,.int .i64 0] 34):=hb9
     have hH9:Kp V w9 Nul:=hHeld.trans' hk9 (fun i hi e=>by have e':i=P:=e;have:=HPg.out;omega)
     have HK9:Hid (Kp V w9 Nul):=hH9
     refine hK.out _ _ hH9 (fun hHeld=>?_)
     clear hK K hb9 hk9 hH9
     (try simp only[Act.put,List.setIfInBounds_toArray])
     refine wpH_takes (i:=10) (v:=?_) (some 9) rfl rfl (by kernel_rfl) (fun _ _ _ h=>h) (Or.inl ⟨by rfl,?_⟩) hHeld ?_
     rotate_left
     ·intro w' hSw;clear hSw;go_simp;try with_reducible rfl
     (try simp only[Act.put])
     refine wpAnyH_done (by kernel_rfl) ?_ _
     refine NoPanic.normal ?_
     clear hHeld
     have HI9:Hid (BrI (lnF cols at' n) w w3.heap.size xc xr cols at' n g2 K k Z w9 M):=HIV.out.nul HK9.out
     have HL9:Hid (Blk w9 (w.heap.size+1+1) [.bool (lostB (lnF cols at' n) (K.take k))] 4):=HI9.out.lo
     gi_wp2_with (first|(refine storeIn_var rfl 4 (.tmp 5) (.const (.bool true)) rfl (w.heap.size+1+1) rfl (.bool true) rfl rfl 4 (.bool (lostB (lnF cols at' n) (K.take k))) HL9.out (by kernel_rfl) ?_;intro X hbX hkX)|fail)
     have HEND:=HI9.out.lose HKk.out HR.out hkX hbX
     have HKX:Kp V X (fun i=>(Z i∨i∈fp)∨W.heap.size<=i):=(HK9.out.mono (fun _ _ q=>q.elim)).trans (hkX.mono (fun i _ e=>.inl (.inl (by rw[show i=(w.heap.size+1+1) from e];exact HI9.out.z2))))
     first
     | exact⟨rfl,HKX,Z,⟨M,HEND⟩,fun i hi=>.inl hi⟩
     | exact⟨HKX,Z,⟨M,HEND⟩,fun i hi=>.inl hi⟩
   ·obtain rfl:=List.mem_singleton.1 hj
    clear hj
    refine wpH_at (i:=8) rfl rfl (fun K hK=>?_)
    go_simp
    obtain⟨P,hP⟩:∃P,V.heap.size=P:=⟨_,rfl⟩
    have HPg:Hid (V.heap.size<=P):=by show _<=_;rw[<- hP];exact Nat.le_refl _
    have HX0:Hid (Blk ((V.alloc (.cells #[.int .i64 0,.int .i64 0,.int .i64 0,.int .i64 0] 34)).drew) P [.int .i64 0,.int .i64 0,.int .i64 0,.int .i64 0] 34):=by show Blk _ _ _ _;rw[<- hP];exact(Blk.new V _ _).drewN 1
    rw[hP]
    clear hP
    obtain⟨wP,hwP⟩:∃wP,(V.alloc (.cells #[.int .i64 0,.int .i64 0,.int .i64 0,.int .i64 0] 34)).drew=wP:=⟨_,rfl⟩
    have hHP:Kp V wP Nul:=by rw[<- hwP];exact((Kp.refl V Nul).alloc _).drew
    rw[hwP] at HX0 ⊢
    clear hwP
    have HP0:Hid (Blk wP P [.int .i64 0,.int .i64 0,.int .i64 0,.int .i64 0] 34):=HX0.out
    refine hK.out _ _ hHP (fun hHeld=>?_)
    clear hK K hHP HX0
    (try simp only[Act.put,Sz0,Sz1,Sz2])
    refine wpH_step (i:=3) (by kernel_rfl) rfl rfl (fun K hK=>?_)
    go_simp
    refine(HA.out c s _).mono ?_
    rintro e wA ⟨rfl,hkA⟩
    have hHA:=hHeld.trans hkA
    have HP1:Hid (Blk wA P [.int .i64 0,.int .i64 0,.int .i64 0,.int .i64 0] 34):=HP0.out.kp hkA (fun x=>x)
    refine hK.out _ _ hHA (fun hHeld=>?_)
    clear hK K hkA hHA
    (try simp only[Act.put,Sz0,Sz1,Sz2])
    refine wpH_step (i:=4) (by kernel_rfl) rfl rfl (fun K hK=>?_)
    go_simp
    refine(HFr.out _ hHeld).mono ?_
    rintro e wB ⟨rfl,hkB⟩
    have hHB:=hHeld.trans hkB
    have HP2:Hid (Blk wB P [.int .i64 0,.int .i64 0,.int .i64 0,.int .i64 0] 34):=HP1.out.kp hkB (fun x=>x)
    refine hK.out _ _ hHB (fun hHeld=>?_)
    clear hK K hkB hHB
    (try simp only[Act.put,Sz0,Sz1,Sz2])
    refine wpH_takes (i:=5) (v:=?_) (some 15) rfl rfl (by kernel_rfl) (fun _ _ _ h=>h) (Or.inl ⟨by rfl,?_⟩) hHeld ?_
    rotate_left
    ·intro w' hSw;clear hSw;go_simp;try with_reducible rfl
    (try simp only[Act.put,Sz0,Sz1,Sz2])
    refine wpH_takes (i:=6) (v:=?_) (some 21) rfl rfl (by kernel_rfl) (fun _ _ _ h=>h) (Or.inl ⟨by rfl,?_⟩) hHeld ?_
    rotate_left
    ·intro w' hSw;clear hSw;go_simp;try with_reducible rfl
    (try simp only[Act.put,Sz0,Sz1,Sz2])
    refine wpH_takes (i:=7) (v:=?_) (some 22) rfl rfl (by kernel_rfl) (fun _ _ _ h=>h) (Or.inl ⟨by rfl,?_⟩) hHeld ?_
    rotate_left
    ·intro w' hSw;clear hSw;go_simp;try with_reducible rfl
    (try simp only[Act.put,Sz0,Sz1,Sz2])
    refine wpH_step (i:=9) (by kernel_rfl) rfl rfl (fun K hK=>?_)
    refine wp_store_blk 34 (.tmp 8) (.tmp 21) rfl P [.int .i64 0,.int .i64 0,.int .i64 0,.int .i64 0] [.int .i64 0,.int .i64 0,.int .i64 0,.int .i64 0] 34 HP2.out rfl rfl rfl infoArea (ints4 _ _ _ _) ?_
    intro w9 hb9 hk9
    have HP9:Hid (Blk w9 P [.int .i64 0,.int .i64 0,.int .i64 0,.int .i64 0] 34):=hb9
    have hH9:Kp V w9 Nul:=hHeld.trans' hk9 (fun i hi e=>by have e':i=P:=e;have:=HPg.out;omega)
    have HK9:Hid (Kp V w9 Nul):=hH9
    refine hK.out _ _ hH9 (fun hHeld=>?_)
    clear hK K hb9 hk9 hH9
    (try simp only[Act.put,List.setIfInBounds_toArray])
    refine wpH_takes (i:=10) (v:=?_) (some 9) rfl rfl (by kernel_rfl) (fun _ _ _ h=>h) (Or.inl ⟨by rfl,?_⟩) hHeld ?_
    rotate_left
    ·intro w' hSw;clear hSw;go_simp;try with_reducible rfl
    (try simp only[Act.put])
    refine wpAnyH_done (by kernel_rfl) ?_ _
    refine NoPanic.normal ?_
    clear hHeld
    have HI9:Hid (BrI (lnF cols at' n) w w3.heap.size xc xr cols at' n g2 K k Z w9 M):=HIV.out.nul HK9.out
    have HL9:Hid (Blk w9 (w.heap.size+1+1) [.bool (lostB (lnF cols at' n) (K.take k))] 4):=HI9.out.lo
    gi_wp2_with (first|(refine storeIn_var rfl 4 (.tmp 5) (.const (.bool true)) rfl (w.heap.size+1+1) rfl (.bool true) rfl rfl 4 (.bool (lostB (lnF cols at' n) (K.take k))) HL9.out (by kernel_rfl) ?_;intro X hbX hkX)|fail)
    have HEND:=HI9.out.lose HKk.out HR.out hkX hbX
    have HKX:Kp V X (fun i=>(Z i∨i∈fp)∨W.heap.size<=i):=(HK9.out.mono (fun _ _ q=>q.elim)).trans (hkX.mono (fun i _ e=>.inl (.inl (by rw[show i=(w.heap.size+1+1) from e];exact HI9.out.z2))))
    first
    | exact⟨rfl,HKX,Z,⟨M,HEND⟩,fun i hi=>.inl hi⟩
    | exact⟨HKX,Z,⟨M,HEND⟩,fun i hi=>.inl hi⟩
  | some b=>
   obtain⟨⟨b1,s1⟩,⟨b2,s2⟩⟩:=b
   rw[hR] at hFr
   have HR:Hid ((lnF cols at' n) ((c,s),(c,s))=some ((b1,s1),(b2,s2))):=hR
   have HFr:Hid (∀wq,Kp V wq Nul->Calls Tryz.prog 144 #[.agg #[.slice (some ⟨xc,0,none⟩) 2 2,.slice (some ⟨xr,0,none⟩) 2 2],.agg #[.int .i64 c,.int .i64 s,.int .i64 c,.int .i64 s]] wq fun e w'=>e=.returned (.tuple #[.agg #[.int .i64 b1,.int .i64 s1,.int .i64 b2,.int .i64 s2],.bool true])/\Kp wq w' Nul):=hFr
   clear hR hFr
   gi_wp2_with (fail)
   refine regIn_noPanic ?_
   refine regIn_held (fun w':World=>Kp V w' Nul) (by kernel_rfl) (by kernel_rfl) (noPanic_lets (fun a w h=>Exit.noConfusion (And.left h))) ((Kp.refl _ _).drew) (fun hHeld=>?_)
   refine wpH_takes (i:=0) (v:=?_) (some 16) rfl rfl (by kernel_rfl) (fun _ _ _ h=>h) (Or.inl ⟨by rfl,?_⟩) hHeld ?_
   rotate_left
   ·intro w' hSw;clear hSw;go_simp;try with_reducible rfl
   simp only[Act.put,Sz0,Sz1,Sz2]
   refine wpH_takes (i:=1) (v:=?_) (some 17) rfl rfl (by kernel_rfl) (fun _ _ _ h=>h) (Or.inl ⟨by rfl,?_⟩) hHeld ?_
   rotate_left
   ·intro w' hSw;have s0:=(HFb.out.kp hSw (fun x=>x)).cell (i:=0) rfl;have s1:=(HbA.out.kp hSw (fun x=>x)).cell (i:=0) rfl;have s2:=(HbA.out.kp hSw (fun x=>x)).cell (i:=1) rfl;clear hSw;go_simp;try with_reducible rfl
   simp only[Act.put,Sz0,Sz1,Sz2]
   refine wpH_takes (i:=2) (v:=?_) (some 18) rfl rfl (by kernel_rfl) (fun _ _ _ h=>h) (Or.inl ⟨by rfl,?_⟩) hHeld ?_
   rotate_left
   ·intro w' hSw;have s0:=(HFb.out.kp hSw (fun x=>x)).cell (i:=0) rfl;have s1:=(HbA.out.kp hSw (fun x=>x)).cell (i:=0) rfl;have s2:=(HbA.out.kp hSw (fun x=>x)).cell (i:=1) rfl;clear hSw;go_simp;try with_reducible rfl
   simp only[Act.put,Sz0,Sz1,Sz2]
   refine wpAnyH_all (rs:=[3,8]) (by kernel_rfl) (by simp) (fun j hj=>?_)
   rcases List.mem_cons.1 hj with rfl|hj
   ·clear hj
    refine wpH_at (i:=3) rfl rfl (fun K hK=>?_)
    go_simp
    refine(HA.out c s _).mono ?_
    rintro e wA ⟨rfl,hkA⟩
    have hHA:=hHeld.trans hkA
    refine hK.out _ _ hHA (fun hHeld=>?_)
    clear hK K hkA hHA
    (try simp only[Act.put,Sz0,Sz1,Sz2])
    refine wpAnyH_all (rs:=[4,8]) (by kernel_rfl) (by simp) (fun j hj=>?_)
    rcases List.mem_cons.1 hj with rfl|hj
    ·clear hj
     refine wpH_at (i:=4) rfl rfl (fun K hK=>?_)
     go_simp
     refine(HFr.out _ hHeld).mono ?_
     rintro e wB ⟨rfl,hkB⟩
     have hHB:=hHeld.trans hkB
     refine hK.out _ _ hHB (fun hHeld=>?_)
     clear hK K hkB hHB
     (try simp only[Act.put,Sz0,Sz1,Sz2])
     refine wpH_takes (i:=5) (v:=?_) (some 15) rfl rfl (by kernel_rfl) (fun _ _ _ h=>h) (Or.inl ⟨by rfl,?_⟩) hHeld ?_
     rotate_left
     ·intro w' hSw;clear hSw;go_simp;try with_reducible rfl
     (try simp only[Act.put,Sz0,Sz1,Sz2])
     refine wpH_takes (i:=6) (v:=?_) (some 21) rfl rfl (by kernel_rfl) (fun _ _ _ h=>h) (Or.inl ⟨by rfl,?_⟩) hHeld ?_
     rotate_left
     ·intro w' hSw;clear hSw;go_simp;try with_reducible rfl
     (try simp only[Act.put,Sz0,Sz1,Sz2])
     refine wpH_takes (i:=7) (v:=?_) (some 22) rfl rfl (by kernel_rfl) (fun _ _ _ h=>h) (Or.inl ⟨by rfl,?_⟩) hHeld ?_
     rotate_left
     ·intro w' hSw;clear hSw;go_simp;try with_reducible rfl
     (try simp only[Act.put,Sz0,Sz1,Sz2])
     refine wpH_step (i:=8) (by kernel_rfl) rfl rfl (fun K hK=>?_)
     go_simp
     obtain⟨P,hP⟩:∃P,wB.heap.size=P:=⟨_,rfl⟩
     have HPg:Hid (V.heap.size<=P):=by show _<=_;rw[<- hP];exact hHeld.size
     have HX0:Hid (Blk (wB.alloc (.cells #[.int .i64 0,.int .i64 0,.int .i64 0,.int .i64 0] 34)) P [.int .i64 0,.int .i64 0,.int .i64 0,.int .i64 0] 34):=by show Blk _ _ _ _;rw[<- hP];exact Blk.new _ _ _
     rw[hP]
     clear hP
     obtain⟨wP,hwP⟩:∃wP,wB.alloc (.cells #[.int .i64 0,.int .i64 0,.int .i64 0,.int .i64 0] 34)=wP:=⟨_,rfl⟩
     have hHP:Kp V wP Nul:=by rw[<- hwP];exact hHeld.alloc _
     rw[hwP] at HX0 ⊢
     clear hwP
     have HP3:Hid (Blk wP P [.int .i64 0,.int .i64 0,.int .i64 0,.int .i64 0] 34):=HX0.out
     refine hK.out _ _ hHP (fun hHeld=>?_)
     clear hK K hHP HX0
     (try simp only[Act.put,Sz0,Sz1,Sz2])
     refine wpH_step (i:=9) (by kernel_rfl) rfl rfl (fun K hK=>?_)
     refine wp_store_blk 34 (.tmp 8) (.tmp 21) rfl P [.int .i64 0,.int .i64 0,.int .i64 0,.int .i64 0] [.int .i64 b1,.int .i64 s1,.int .i64 b2,.int .i64 s2] 34 HP3.out rfl rfl rfl infoArea (ints4 _ _ _ _) ?_
     intro w9 hb9 hk9
     have HP9:Hid (Blk w9 P [.int .i64 b1,.int .i64 s1,.int .i64 b2,.int .i64 s2] 34):=hb9
     have hH9:Kp V w9 Nul:=hHeld.trans' hk9 (fun i hi e=>by have e':i=P:=e;have:=HPg.out;omega)
     have HK9:Hid (Kp V w9 Nul):=hH9
     refine hK.out _ _ hH9 (fun hHeld=>?_)
     clear hK K hb9 hk9 hH9
     (try simp only[Act.put,List.setIfInBounds_toArray])
     refine wpH_takes (i:=10) (v:=?_) (some 9) rfl rfl (by kernel_rfl) (fun _ _ _ h=>h) (Or.inl ⟨by rfl,?_⟩) hHeld ?_
     rotate_left
     ·intro w' hSw;clear hSw;go_simp;try with_reducible rfl
     (try simp only[Act.put])
     refine wpAnyH_done (by kernel_rfl) ?_ _
     refine NoPanic.normal ?_
     clear hHeld
     have HbC9:Hid (Blk w9 (W.heap.size+1) ([.int .i64 a.k,.int .i64 a.v.k,.float .f64 a.v.x,.string a.v.s,.bool a.v.b,.int .i64 a.v.f]++a.t.hd.cells sl++[]) 50):=HbC.out.kp HK9.out (fun x=>x)
     have HRg9:Hid (w9.rangeAt (W.heap.size+1) 6 (a.t.hd.cells sl)):=rangeAt_mid HbC9.out
     have HAl:Hid (Calls Tryz.prog 106 #[.agg #[fateF xc xr],a.t.hd.val sl] w9 fun e w'=>∃sl' fp',e=.returned ((alN (lnF cols at' n) a.t).hd.val sl')/\AlR (lnF cols at' n) a.t fp w9 w' sl' fp'):=along_at xc xr cols at' n HLn.out a.t sl fp w9 (HOwnV.out.mono (fun i hi=>HK9.out.block i (node_lt (HOwnV.out.node i hi)) (fun x=>x))) HNd.out (HIV.out.nul HK9.out).kept
     have f9:w9.cell? ⟨w.heap.size,0,none⟩=some (fateF xc xr):=(HIV.out.nul HK9.out).fb.cell rfl
     have HI9:Hid (BrI (lnF cols at' n) w w3.heap.size xc xr cols at' n g2 K k Z w9 M):=HIV.out.nul HK9.out
     gi_wp2_with (first|(refine loadIn_row rfl 48 (.tmp 26) rfl (W.heap.size+1) 6 rfl (a.t.hd.cells sl) _ HRg9.out Tryz.underlying48 rfl infoNode ?_)|fail)
     refine⟨trivial,(callsIn_wide.2 HAl.out).mono ?_⟩
     rintro e wB ⟨sl',fp',rfl,hRR⟩
     have HRR:Hid (AlR (lnF cols at' n) a.t fp w9 wB sl' fp'):=hRR
     have hA2f:∀i∈fp,i<W.heap.size:=fun i hi=>node_lt (HOwn.out.node i hi)
     have HbCB:Hid (Blk wB (W.heap.size+1) ([.int .i64 a.k,.int .i64 a.v.k,.float .f64 a.v.x,.string a.v.s,.bool a.v.b,.int .i64 a.v.f]++a.t.hd.cells sl++[]) 50):=HbC9.out.kp hRR.kp (fun e=>by have:=hA2f _ e;omega)
     have HIB:Hid (BrI (lnF cols at' n) w w3.heap.size xc xr cols at' n g2 K k Z wB M):=HI9.out.far hRR.kp (fun i hi e=>(HFz.out i e).2 hi) (fun i hi e=>by have:=(HFz.out i e).1;omega)
     have O5:Hid (sl'.oneCell'=true):=hRR.own.one
     clear hRR f9
     gi_wp2_with (first|(refine storeIn_part rfl 48 (.tmp 29) (.tmp 28) rfl (W.heap.size+1) 6 [.int .i64 a.k,.int .i64 a.v.k,.float .f64 a.v.x,.string a.v.s,.bool a.v.b,.int .i64 a.v.f] (a.t.hd.cells sl) [] ((alN (lnF cols at' n) a.t).hd.cells sl') 50 HbCB.out rfl rfl rfl rfl infoNode (Hd.one (alN (lnF cols at' n) a.t).hd O5.out) ?_;intro wC hbC hkC;have g0:wC.cell? ⟨(w.heap.size+1),0,none⟩=some (.pointer (some ⟨g2,0,none⟩)):=(HIB.out.oth.kp hkC (by show ¬(w.heap.size+1)=(W.heap.size+1);have:=HSW.out;have:=HIB.out.hB;omega)).cell rfl;have g1:wC.cell? ⟨P,0,none⟩=some (.int .i64 b1):=((HP9.out.kp HRR.out.kp (fun e=>by have:=hA2f _ e;have:=HPg.out;have:=HVW.out;omega)).kp hkC (by show ¬P=(W.heap.size+1);have:=HPg.out;have:=HVW.out;omega)).cell rfl;have g2':wC.cell? ⟨P,1,none⟩=some (.int .i64 s1):=((HP9.out.kp HRR.out.kp (fun e=>by have:=hA2f _ e;have:=HPg.out;have:=HVW.out;omega)).kp hkC (by show ¬P=(W.heap.size+1);have:=HPg.out;have:=HVW.out;omega)).cell rfl;have HbCC:Hid (Blk wC (W.heap.size+1) ((alC (lnF cols at' n) a).cells sl') 50):=hbC)|(refine loadIn_content rfl (.tmp 7) rfl (W.heap.size+1) rfl ((alC (lnF cols at' n) a).cells sl').toArray HbCC.out rfl ?_)|fail)
     have kCV:Kp wB wC (fun i=>i=(W.heap.size+1)):=hkC
     have HIC:Hid (BrI (lnF cols at' n) w w3.heap.size xc xr cols at' n g2 K k Z wC M):=HIB.out.far kCV (fun i hi e=>by have e':i=(W.heap.size+1):=e;have:=(HI.out.zl i hi).1;omega) (fun i hi e=>by have e':i=(W.heap.size+1):=e;have:=HSW.out;omega)
     have hgd:=alC_gd (lnF_ok HLn.out) (HOk.out.gd _ ((HKm.out _).1 (List.mem_of_getElem? HKk.out)))
     have hin:NdIn wC (fun _=>True) sl' (alC (lnF cols at' n) a).t:=(HRR.out.own.mono (fun i hi=>kCV.block i (node_lt (HRR.out.own.node i hi)) (fun e=>by have e':i=(W.heap.size+1):=e;have:=hA2f i (HRR.out.sub.subset hi);omega))).isIn (fun _ _=>trivial)
     refine⟨trivial,(callsIn_wide.2 (put_any (fun i=>(Z i/\i≠(w.heap.size+1+1))∨wC.heap.size<=i) g2 b1 s1 (alC (lnF cols at' n) a) sl' (fun _=>True) M wC (HIC.out.gi.mono (fun i hi=>.inl hi)) (fun i hi=>.inr hi) HIC.out.ok hgd.ok hgd.x hgd.size hin (HV.out.kp HIC.out.kp))).mono ?_⟩
     rintro e X ⟨er,M',rfl,h1,h2,h3⟩
     have hsz:w3.heap.size+2<=wC.heap.size:=by have:=HSW.out;have:=HbCC.out.lt;omega
     obtain⟨Z',hB',hZ'⟩:=HIC.out.put (lnF_ok HLn.out) (lnF_inj _ _ _) HKk.out HR.out HKs.out HKl.out (fun y hy=>HOk.out.at' _ ((HKm.out _).1 hy)) (fun y hy=>HOk.out.gd _ ((HKm.out _).1 hy)) hsz h1 h2 h3
     have HKX:Hid (Kp V X (fun i=>(Z i∨i∈fp)∨W.heap.size<=i)):=(((HK9.out.mono (fun _ _ q=>q.elim)).trans (HRR.out.kp.mono (fun i _ e=>.inl (.inr e)))).trans (kCV.mono (fun i _ e=>.inr (by have e':i=(W.heap.size+1):=e;omega)))).trans (h3.kp.mono (fun i _ e=>.inl (.inl (HIC.out.sm e))))
     have HEND:Hid (∃Z',(∃M,BrI (lnF cols at' n) w w3.heap.size xc xr cols at' n g2 K (k+1) Z' X M)/\More Z Z' W):=⟨Z',⟨M',hB'⟩,fun i hi=>(hZ' i hi).imp id (fun q=>by have:=HbCC.out.lt;omega)⟩
     clear hB' hZ' h1 h2 h3 hin hgd kCV
     gi_wp2_with (fail)
     first
     | exact⟨rfl,HKX.out,HEND.out⟩
     | exact⟨HKX.out,HEND.out⟩
    ·obtain rfl:=List.mem_singleton.1 hj
     clear hj
     refine wpH_at (i:=8) rfl rfl (fun K hK=>?_)
     go_simp
     obtain⟨P,hP⟩:∃P,wA.heap.size=P:=⟨_,rfl⟩
     have HPg:Hid (V.heap.size<=P):=by show _<=_;rw[<- hP];exact hHeld.size
     have HX0:Hid (Blk (wA.alloc (.cells #[.int .i64 0,.int .i64 0,.int .i64 0,.int .i64 0] 34)) P [.int .i64 0,.int .i64 0,.int .i64 0,.int .i64 0] 34):=by show Blk _ _ _ _;rw[<- hP];exact Blk.new _ _ _
     rw[hP]
     clear hP
     obtain⟨wP,hwP⟩:∃wP,wA.alloc (.cells #[.int .i64 0,.int .i64 0,.int .i64 0,.int .i64 0] 34)=wP:=⟨_,rfl⟩
     have hHP:Kp V wP Nul:=by rw[<- hwP];exact hHeld.alloc _
     rw[hwP] at HX0 ⊢
     clear hwP
     have HP1:Hid (Blk wP P [.int .i64 0,.int .i64 0,.int .i64 0,.int .i64 0] 34):=HX0.out
     refine hK.out _ _ hHP (fun hHeld=>?_)
     clear hK K hHP HX0
     (try simp only[Act.put,Sz0,Sz1,Sz2])
     refine wpH_step (i:=4) (by kernel_rfl) rfl rfl (fun K hK=>?_)
     go_simp
     refine(HFr.out _ hHeld).mono ?_
     rintro e wB ⟨rfl,hkB⟩
     have hHB:=hHeld.trans hkB
     have HP2:Hid (Blk wB P [.int .i64 0,.int .i64 0,.int .i64 0,.int .i64 0] 34):=HP1.out.kp hkB (fun x=>x)
     refine hK.out _ _ hHB (fun hHeld=>?_)
     clear hK K hkB hHB
     (try simp only[Act.put,Sz0,Sz1,Sz2])
     refine wpH_takes (i:=5) (v:=?_) (some 15) rfl rfl (by kernel_rfl) (fun _ _ _ h=>h) (Or.inl ⟨by rfl,?_⟩) hHeld ?_
     rotate_left
     ·intro w' hSw;clear hSw;go_simp;try with_reducible rfl
     (try simp only[Act.put,Sz0,Sz1,Sz2])
     refine wpH_takes (i:=6) (v:=?_) (some 21) rfl rfl (by kernel_rfl) (fun _ _ _ h=>h) (Or.inl ⟨by rfl,?_⟩) hHeld ?_
     rotate_left
     ·intro w' hSw;clear hSw;go_simp;try with_reducible rfl
     (try simp only[Act.put,Sz0,Sz1,Sz2])
     refine wpH_takes (i:=7) (v:=?_) (some 22) rfl rfl (by kernel_rfl) (fun _ _ _ h=>h) (Or.inl ⟨by rfl,?_⟩) hHeld ?_
     rotate_left
     ·intro w' hSw;clear hSw;go_simp;try with_reducible rfl
     (try simp only[Act.put,Sz0,Sz1,Sz2])
     refine wpH_step (i:=9) (by kernel_rfl) rfl rfl (fun K hK=>?_)
     refine wp_store_blk 34 (.tmp 8) (.tmp 21) rfl P [.int .i64 0,.int .i64 0,.int .i64 0,.int .i64 0] [.int .i64 b1,.int .i64 s1,.int .i64 b2,.int .i64 s2] 34 HP2.out rfl rfl rfl infoArea (ints4 _ _ _ _) ?_
     intro w9 hb9 hk9
     have HP9:Hid (Blk w9 P [.int .i64 b1,.int .i64 s1,.int .i64 b2,.int .i64 s2] 34):=hb9
     have hH9:Kp V w9 Nul:=hHeld.trans' hk9 (fun i hi e=>by have e':i=P:=e;have:=HPg.out;omega)
     have HK9:Hid (Kp V w9 Nul):=hH9
     refine hK.out _ _ hH9 (fun hHeld=>?_)
     clear hK K hb9 hk9 hH9
     (try simp only[Act.put,List.setIfInBounds_toArray])
     refine wpH_takes (i:=10) (v:=?_) (some 9) rfl rfl (by kernel_rfl) (fun _ _ _ h=>h) (Or.inl ⟨by rfl,?_⟩) hHeld ?_
     rotate_left
     ·intro w' hSw;clear hSw;go_simp;try with_reducible rfl
     (try simp only[Act.put])
     refine wpAnyH_done (by kernel_rfl) ?_ _
     refine NoPanic.normal ?_
     clear hHeld
     have HbC9:Hid (Blk w9 (W.heap.size+1) ([.int .i64 a.k,.int .i64 a.v.k,.float .f64 a.v.x,.string a.v.s,.bool a.v.b,.int .i64 a.v.f]++a.t.hd.cells sl++[]) 50):=HbC.out.kp HK9.out (fun x=>x)
     have HRg9:Hid (w9.rangeAt (W.heap.size+1) 6 (a.t.hd.cells sl)):=rangeAt_mid HbC9.out
     have HAl:Hid (Calls Tryz.prog 106 #[.agg #[fateF xc xr],a.t.hd.val sl] w9 fun e w'=>∃sl' fp',e=.returned ((alN (lnF cols at' n) a.t).hd.val sl')/\AlR (lnF cols at' n) a.t fp w9 w' sl' fp'):=along_at xc xr cols at' n HLn.out a.t sl fp w9 (HOwnV.out.mono (fun i hi=>HK9.out.block i (node_lt (HOwnV.out.node i hi)) (fun x=>x))) HNd.out (HIV.out.nul HK9.out).kept
     have f9:w9.cell? ⟨w.heap.size,0,none⟩=some (fateF xc xr):=(HIV.out.nul HK9.out).fb.cell rfl
     have HI9:Hid (BrI (lnF cols at' n) w w3.heap.size xc xr cols at' n g2 K k Z w9 M):=HIV.out.nul HK9.out
     gi_wp2_with (first|(refine loadIn_row rfl 48 (.tmp 26) rfl (W.heap.size+1) 6 rfl (a.t.hd.cells sl) _ HRg9.out Tryz.underlying48 rfl infoNode ?_)|fail)
     refine⟨trivial,(callsIn_wide.2 HAl.out).mono ?_⟩
     rintro e wB ⟨sl',fp',rfl,hRR⟩
     have HRR:Hid (AlR (lnF cols at' n) a.t fp w9 wB sl' fp'):=hRR
     have hA2f:∀i∈fp,i<W.heap.size:=fun i hi=>node_lt (HOwn.out.node i hi)
     have HbCB:Hid (Blk wB (W.heap.size+1) ([.int .i64 a.k,.int .i64 a.v.k,.float .f64 a.v.x,.string a.v.s,.bool a.v.b,.int .i64 a.v.f]++a.t.hd.cells sl++[]) 50):=HbC9.out.kp hRR.kp (fun e=>by have:=hA2f _ e;omega)
     have HIB:Hid (BrI (lnF cols at' n) w w3.heap.size xc xr cols at' n g2 K k Z wB M):=HI9.out.far hRR.kp (fun i hi e=>(HFz.out i e).2 hi) (fun i hi e=>by have:=(HFz.out i e).1;omega)
     have O5:Hid (sl'.oneCell'=true):=hRR.own.one
     clear hRR f9
     gi_wp2_with (first|(refine storeIn_part rfl 48 (.tmp 29) (.tmp 28) rfl (W.heap.size+1) 6 [.int .i64 a.k,.int .i64 a.v.k,.float .f64 a.v.x,.string a.v.s,.bool a.v.b,.int .i64 a.v.f] (a.t.hd.cells sl) [] ((alN (lnF cols at' n) a.t).hd.cells sl') 50 HbCB.out rfl rfl rfl rfl infoNode (Hd.one (alN (lnF cols at' n) a.t).hd O5.out) ?_;intro wC hbC hkC;have g0:wC.cell? ⟨(w.heap.size+1),0,none⟩=some (.pointer (some ⟨g2,0,none⟩)):=(HIB.out.oth.kp hkC (by show ¬(w.heap.size+1)=(W.heap.size+1);have:=HSW.out;have:=HIB.out.hB;omega)).cell rfl;have g1:wC.cell? ⟨P,0,none⟩=some (.int .i64 b1):=((HP9.out.kp HRR.out.kp (fun e=>by have:=hA2f _ e;have:=HPg.out;have:=HVW.out;omega)).kp hkC (by show ¬P=(W.heap.size+1);have:=HPg.out;have:=HVW.out;omega)).cell rfl;have g2':wC.cell? ⟨P,1,none⟩=some (.int .i64 s1):=((HP9.out.kp HRR.out.kp (fun e=>by have:=hA2f _ e;have:=HPg.out;have:=HVW.out;omega)).kp hkC (by show ¬P=(W.heap.size+1);have:=HPg.out;have:=HVW.out;omega)).cell rfl;have HbCC:Hid (Blk wC (W.heap.size+1) ((alC (lnF cols at' n) a).cells sl') 50):=hbC)|(refine loadIn_content rfl (.tmp 7) rfl (W.heap.size+1) rfl ((alC (lnF cols at' n) a).cells sl').toArray HbCC.out rfl ?_)|fail)
     have kCV:Kp wB wC (fun i=>i=(W.heap.size+1)):=hkC
     have HIC:Hid (BrI (lnF cols at' n) w w3.heap.size xc xr cols at' n g2 K k Z wC M):=HIB.out.far kCV (fun i hi e=>by have e':i=(W.heap.size+1):=e;have:=(HI.out.zl i hi).1;omega) (fun i hi e=>by have e':i=(W.heap.size+1):=e;have:=HSW.out;omega)
     have hgd:=alC_gd (lnF_ok HLn.out) (HOk.out.gd _ ((HKm.out _).1 (List.mem_of_getElem? HKk.out)))
     have hin:NdIn wC (fun _=>True) sl' (alC (lnF cols at' n) a).t:=(HRR.out.own.mono (fun i hi=>kCV.block i (node_lt (HRR.out.own.node i hi)) (fun e=>by have e':i=(W.heap.size+1):=e;have:=hA2f i (HRR.out.sub.subset hi);omega))).isIn (fun _ _=>trivial)
     refine⟨trivial,(callsIn_wide.2 (put_any (fun i=>(Z i/\i≠(w.heap.size+1+1))∨wC.heap.size<=i) g2 b1 s1 (alC (lnF cols at' n) a) sl' (fun _=>True) M wC (HIC.out.gi.mono (fun i hi=>.inl hi)) (fun i hi=>.inr hi) HIC.out.ok hgd.ok hgd.x hgd.size hin (HV.out.kp HIC.out.kp))).mono ?_⟩
     rintro e X ⟨er,M',rfl,h1,h2,h3⟩
     have hsz:w3.heap.size+2<=wC.heap.size:=by have:=HSW.out;have:=HbCC.out.lt;omega
     obtain⟨Z',hB',hZ'⟩:=HIC.out.put (lnF_ok HLn.out) (lnF_inj _ _ _) HKk.out HR.out HKs.out HKl.out (fun y hy=>HOk.out.at' _ ((HKm.out _).1 hy)) (fun y hy=>HOk.out.gd _ ((HKm.out _).1 hy)) hsz h1 h2 h3
     have HKX:Hid (Kp V X (fun i=>(Z i∨i∈fp)∨W.heap.size<=i)):=(((HK9.out.mono (fun _ _ q=>q.elim)).trans (HRR.out.kp.mono (fun i _ e=>.inl (.inr e)))).trans (kCV.mono (fun i _ e=>.inr (by have e':i=(W.heap.size+1):=e;omega)))).trans (h3.kp.mono (fun i _ e=>.inl (.inl (HIC.out.sm e))))
     have HEND:Hid (∃Z',(∃M,BrI (lnF cols at' n) w w3.heap.size xc xr cols at' n g2 K (k+1) Z' X M)/\More Z Z' W):=⟨Z',⟨M',hB'⟩,fun i hi=>(hZ' i hi).imp id (fun q=>by have:=HbCC.out.lt;omega)⟩
     clear hB' hZ' h1 h2 h3 hin hgd kCV
     gi_wp2_with (fail)
     first
     | exact⟨rfl,HKX.out,HEND.out⟩
     | exact⟨HKX.out,HEND.out⟩
   ·obtain rfl:=List.mem_singleton.1 hj
    clear hj
    refine wpH_at (i:=8) rfl rfl (fun K hK=>?_)
    go_simp
    obtain⟨P,hP⟩:∃P,V.heap.size=P:=⟨_,rfl⟩
    have HPg:Hid (V.heap.size<=P):=by show _<=_;rw[<- hP];exact Nat.le_refl _
    have HX0:Hid (Blk ((V.alloc (.cells #[.int .i64 0,.int .i64 0,.int .i64 0,.int .i64 0] 34)).drew) P [.int .i64 0,.int .i64 0,.int .i64 0,.int .i64 0] 34):=by show Blk _ _ _ _;rw[<- hP];exact(Blk.new V _ _).drewN 1
    rw[hP]
    clear hP
    obtain⟨wP,hwP⟩:∃wP,(V.alloc (.cells #[.int .i64 0,.int .i64 0,.int .i64 0,.int .i64 0] 34)).drew=wP:=⟨_,rfl⟩
    have hHP:Kp V wP Nul:=by rw[<- hwP];exact((Kp.refl V Nul).alloc _).drew
    rw[hwP] at HX0 ⊢
    clear hwP
    have HP0:Hid (Blk wP P [.int .i64 0,.int .i64 0,.int .i64 0,.int .i64 0] 34):=HX0.out
    refine hK.out _ _ hHP (fun hHeld=>?_)
    clear hK K hHP HX0
    (try simp only[Act.put,Sz0,Sz1,Sz2])
    refine wpH_step (i:=3) (by kernel_rfl) rfl rfl (fun K hK=>?_)
    go_simp
    refine(HA.out c s _).mono ?_
    rintro e wA ⟨rfl,hkA⟩
    have hHA:=hHeld.trans hkA
    have HP1:Hid (Blk wA P [.int .i64 0,.int .i64 0,.int .i64 0,.int .i64 0] 34):=HP0.out.kp hkA (fun x=>x)
    refine hK.out _ _ hHA (fun hHeld=>?_)
    clear hK K hkA hHA
    (try simp only[Act.put,Sz0,Sz1,Sz2])
    refine wpH_step (i:=4) (by kernel_rfl) rfl rfl (fun K hK=>?_)
    go_simp
    refine(HFr.out _ hHeld).mono ?_
    rintro e wB ⟨rfl,hkB⟩
    have hHB:=hHeld.trans hkB
    have HP2:Hid (Blk wB P [.int .i64 0,.int .i64 0,.int .i64 0,.int .i64 0] 34):=HP1.out.kp hkB (fun x=>x)
    refine hK.out _ _ hHB (fun hHeld=>?_)
    clear hK K hkB hHB
    (try simp only[Act.put,Sz0,Sz1,Sz2])
    refine wpH_takes (i:=5) (v:=?_) (some 15) rfl rfl (by kernel_rfl) (fun _ _ _ h=>h) (Or.inl ⟨by rfl,?_⟩) hHeld ?_
    rotate_left
    ·intro w' hSw;clear hSw;go_simp;try with_reducible rfl
    (try simp only[Act.put,Sz0,Sz1,Sz2])
    refine wpH_takes (i:=6) (v:=?_) (some 21) rfl rfl (by kernel_rfl) (fun _ _ _ h=>h) (Or.inl ⟨by rfl,?_⟩) hHeld ?_
    rotate_left
    ·intro w' hSw;clear hSw;go_simp;try with_reducible rfl
    (try simp only[Act.put,Sz0,Sz1,Sz2])
    refine wpH_takes (i:=7) (v:=?_) (some 22) rfl rfl (by kernel_rfl) (fun _ _ _ h=>h) (Or.inl ⟨by rfl,?_⟩) hHeld ?_
    rotate_left
    ·intro w' hSw;clear hSw;go_simp;try with_reducible rfl
    (try simp only[Act.put,Sz0,Sz1,Sz2])
    refine wpH_step (i:=9) (by kernel_rfl) rfl rfl (fun K hK=>?_)
    refine wp_store_blk 34 (.tmp 8) (.tmp 21) rfl P [.int .i64 0,.int .i64 0,.int .i64 0,.int .i64 0] [.int .i64 b1,.int .i64 s1,.int .i64 b2,.int .i64 s2] 34 HP2.out rfl rfl rfl infoArea (ints4 _ _ _ _) ?_
    intro w9 hb9 hk9
    have HP9:Hid (Blk w9 P [.int .i64 b1,.int .i64 s1,.int .i64 b2,.int .i64 s2] 34):=hb9
    have hH9:Kp V w9 Nul:=hHeld.trans' hk9 (fun i hi e=>by have e':i=P:=e;have:=HPg.out;omega)
    have HK9:Hid (Kp V w9 Nul):=hH9
    refine hK.out _ _ hH9 (fun hHeld=>?_)
    clear hK K hb9 hk9 hH9
    (try simp only[Act.put,List.setIfInBounds_toArray])
    refine wpH_takes (i:=10) (v:=?_) (some 9) rfl rfl (by kernel_rfl) (fun _ _ _ h=>h) (Or.inl ⟨by rfl,?_⟩) hHeld ?_
    rotate_left
    ·intro w' hSw;clear hSw;go_simp;try with_reducible rfl
    (try simp only[Act.put])
    refine wpAnyH_done (by kernel_rfl) ?_ _
    refine NoPanic.normal ?_
    clear hHeld
    have HbC9:Hid (Blk w9 (W.heap.size+1) ([.int .i64 a.k,.int .i64 a.v.k,.float .f64 a.v.x,.string a.v.s,.bool a.v.b,.int .i64 a.v.f]++a.t.hd.cells sl++[]) 50):=HbC.out.kp HK9.out (fun x=>x)
    have HRg9:Hid (w9.rangeAt (W.heap.size+1) 6 (a.t.hd.cells sl)):=rangeAt_mid HbC9.out
    have HAl:Hid (Calls Tryz.prog 106 #[.agg #[fateF xc xr],a.t.hd.val sl] w9 fun e w'=>∃sl' fp',e=.returned ((alN (lnF cols at' n) a.t).hd.val sl')/\AlR (lnF cols at' n) a.t fp w9 w' sl' fp'):=along_at xc xr cols at' n HLn.out a.t sl fp w9 (HOwnV.out.mono (fun i hi=>HK9.out.block i (node_lt (HOwnV.out.node i hi)) (fun x=>x))) HNd.out (HIV.out.nul HK9.out).kept
    have f9:w9.cell? ⟨w.heap.size,0,none⟩=some (fateF xc xr):=(HIV.out.nul HK9.out).fb.cell rfl
    have HI9:Hid (BrI (lnF cols at' n) w w3.heap.size xc xr cols at' n g2 K k Z w9 M):=HIV.out.nul HK9.out
    gi_wp2_with (first|(refine loadIn_row rfl 48 (.tmp 26) rfl (W.heap.size+1) 6 rfl (a.t.hd.cells sl) _ HRg9.out Tryz.underlying48 rfl infoNode ?_)|fail)
    refine⟨trivial,(callsIn_wide.2 HAl.out).mono ?_⟩
    rintro e wB ⟨sl',fp',rfl,hRR⟩
    have HRR:Hid (AlR (lnF cols at' n) a.t fp w9 wB sl' fp'):=hRR
    have hA2f:∀i∈fp,i<W.heap.size:=fun i hi=>node_lt (HOwn.out.node i hi)
    have HbCB:Hid (Blk wB (W.heap.size+1) ([.int .i64 a.k,.int .i64 a.v.k,.float .f64 a.v.x,.string a.v.s,.bool a.v.b,.int .i64 a.v.f]++a.t.hd.cells sl++[]) 50):=HbC9.out.kp hRR.kp (fun e=>by have:=hA2f _ e;omega)
    have HIB:Hid (BrI (lnF cols at' n) w w3.heap.size xc xr cols at' n g2 K k Z wB M):=HI9.out.far hRR.kp (fun i hi e=>(HFz.out i e).2 hi) (fun i hi e=>by have:=(HFz.out i e).1;omega)
    have O5:Hid (sl'.oneCell'=true):=hRR.own.one
    clear hRR f9
    gi_wp2_with (first|(refine storeIn_part rfl 48 (.tmp 29) (.tmp 28) rfl (W.heap.size+1) 6 [.int .i64 a.k,.int .i64 a.v.k,.float .f64 a.v.x,.string a.v.s,.bool a.v.b,.int .i64 a.v.f] (a.t.hd.cells sl) [] ((alN (lnF cols at' n) a.t).hd.cells sl') 50 HbCB.out rfl rfl rfl rfl infoNode (Hd.one (alN (lnF cols at' n) a.t).hd O5.out) ?_;intro wC hbC hkC;have g0:wC.cell? ⟨(w.heap.size+1),0,none⟩=some (.pointer (some ⟨g2,0,none⟩)):=(HIB.out.oth.kp hkC (by show ¬(w.heap.size+1)=(W.heap.size+1);have:=HSW.out;have:=HIB.out.hB;omega)).cell rfl;have g1:wC.cell? ⟨P,0,none⟩=some (.int .i64 b1):=((HP9.out.kp HRR.out.kp (fun e=>by have:=hA2f _ e;have:=HPg.out;have:=HVW.out;omega)).kp hkC (by show ¬P=(W.heap.size+1);have:=HPg.out;have:=HVW.out;omega)).cell rfl;have g2':wC.cell? ⟨P,1,none⟩=some (.int .i64 s1):=((HP9.out.kp HRR.out.kp (fun e=>by have:=hA2f _ e;have:=HPg.out;have:=HVW.out;omega)).kp hkC (by show ¬P=(W.heap.size+1);have:=HPg.out;have:=HVW.out;omega)).cell rfl;have HbCC:Hid (Blk wC (W.heap.size+1) ((alC (lnF cols at' n) a).cells sl') 50):=hbC)|(refine loadIn_content rfl (.tmp 7) rfl (W.heap.size+1) rfl ((alC (lnF cols at' n) a).cells sl').toArray HbCC.out rfl ?_)|fail)
    have kCV:Kp wB wC (fun i=>i=(W.heap.size+1)):=hkC
    have HIC:Hid (BrI (lnF cols at' n) w w3.heap.size xc xr cols at' n g2 K k Z wC M):=HIB.out.far kCV (fun i hi e=>by have e':i=(W.heap.size+1):=e;have:=(HI.out.zl i hi).1;omega) (fun i hi e=>by have e':i=(W.heap.size+1):=e;have:=HSW.out;omega)
    have hgd:=alC_gd (lnF_ok HLn.out) (HOk.out.gd _ ((HKm.out _).1 (List.mem_of_getElem? HKk.out)))
    have hin:NdIn wC (fun _=>True) sl' (alC (lnF cols at' n) a).t:=(HRR.out.own.mono (fun i hi=>kCV.block i (node_lt (HRR.out.own.node i hi)) (fun e=>by have e':i=(W.heap.size+1):=e;have:=hA2f i (HRR.out.sub.subset hi);omega))).isIn (fun _ _=>trivial)
    refine⟨trivial,(callsIn_wide.2 (put_any (fun i=>(Z i/\i≠(w.heap.size+1+1))∨wC.heap.size<=i) g2 b1 s1 (alC (lnF cols at' n) a) sl' (fun _=>True) M wC (HIC.out.gi.mono (fun i hi=>.inl hi)) (fun i hi=>.inr hi) HIC.out.ok hgd.ok hgd.x hgd.size hin (HV.out.kp HIC.out.kp))).mono ?_⟩
    rintro e X ⟨er,M',rfl,h1,h2,h3⟩
    have hsz:w3.heap.size+2<=wC.heap.size:=by have:=HSW.out;have:=HbCC.out.lt;omega
    obtain⟨Z',hB',hZ'⟩:=HIC.out.put (lnF_ok HLn.out) (lnF_inj _ _ _) HKk.out HR.out HKs.out HKl.out (fun y hy=>HOk.out.at' _ ((HKm.out _).1 hy)) (fun y hy=>HOk.out.gd _ ((HKm.out _).1 hy)) hsz h1 h2 h3
    have HKX:Hid (Kp V X (fun i=>(Z i∨i∈fp)∨W.heap.size<=i)):=(((HK9.out.mono (fun _ _ q=>q.elim)).trans (HRR.out.kp.mono (fun i _ e=>.inl (.inr e)))).trans (kCV.mono (fun i _ e=>.inr (by have e':i=(W.heap.size+1):=e;omega)))).trans (h3.kp.mono (fun i _ e=>.inl (.inl (HIC.out.sm e))))
    have HEND:Hid (∃Z',(∃M,BrI (lnF cols at' n) w w3.heap.size xc xr cols at' n g2 K (k+1) Z' X M)/\More Z Z' W):=⟨Z',⟨M',hB'⟩,fun i hi=>(hZ' i hi).imp id (fun q=>by have:=HbCC.out.lt;omega)⟩
    clear hB' hZ' h1 h2 h3 hin hgd kCV
    gi_wp2_with (fail)
    first
    | exact⟨rfl,HKX.out,HEND.out⟩
    | exact⟨HKX.out,HEND.out⟩
 case hdone=>
  subst hact
  rintro D Z W hD ⟨M,hB⟩ hdef
  have HB:Hid (BrI (lnF cols at' n) w w3.heap.size xc xr cols at' n g2 K K.length Z W M):=hB
  have HDf:Hid (W.heap[D]? = some (.deferred (some []))):=hdef
  have HDD:Hid (D=w3.heap.size):=hD
  have HN1:Hid (Blk W (w.heap.size+1) [.pointer (some ⟨g2,0,none⟩)] 24):=hB.oth
  have HN2:Hid (Blk W (w.heap.size+1+1) [.bool (lostB (lnF cols at' n) (K.take K.length))] 4):=hB.lo
  have HLs:Hid (lostB (lnF cols at' n) (K.take K.length)=lostB (lnF cols at' n) L):=by
   show _=_
   rw[List.take_length]
   unfold lostB
   rw[Bool.eq_iff_iff,List.any_eq_true,List.any_eq_true]
   exact⟨fun ⟨x,h1,h2⟩=>⟨x,(HKm.out x).1 h1,h2⟩,fun ⟨x,h1,h2⟩=>⟨x,(HKm.out x).2 h1,h2⟩⟩
  clear hB hdef hD hgs hg2e
  generalize lostB (lnF cols at' n) (K.take K.length)=lo at *
  go_wp2_with fail
  refine wp_region_noPanic ?_
  refine wp_region_hel (fun w':World=>DoS W w' (w.heap.size+1) (.pointer (some ⟨g2,0,none⟩)) (w.heap.size+1+1) (.bool lo)) (by kernel_rfl) ⟨HN1.out.drewN 1,HN2.out.drewN 1,(Kp.refl _ _).drew⟩ (fun hHeld=>?_)
  refine wpH_takes (i:=0) (v:=?_) (some 35) rfl rfl (by kernel_rfl) (fun _ _ _ h=>h) (Or.inl ⟨by rfl,?_⟩) hHeld ?_
  rotate_left
  ·intro w' hSw;have s0:=hSw.ba.cell (i:=0) rfl;have s1:=hSw.bb.cell (i:=0) rfl;clear hSw;go_simp;try with_reducible rfl
  simp only[Act.put,Sz0,Sz1,Sz2]
  refine wpH_takes (i:=1) (v:=?_) (some 36) rfl rfl (by kernel_rfl) (fun _ _ _ h=>h) (Or.inl ⟨by rfl,?_⟩) hHeld ?_
  rotate_left
  ·intro w' hSw;have s0:=hSw.ba.cell (i:=0) rfl;have s1:=hSw.bb.cell (i:=0) rfl;clear hSw;go_simp;try with_reducible rfl
  simp only[Act.put,Sz0,Sz1,Sz2]
  refine wpH_step (i:=2) (by kernel_rfl) rfl rfl (fun K hK=>?_)
  refine wp_store_var 24 (.tmp 4) (.tmp 35) rfl (w.heap.size+1) rfl (.pointer (some ⟨g2,0,none⟩)) rfl rfl 24 (.pointer (some ⟨g2,0,none⟩)) (HN1.out.drewN 1) (by kernel_rfl) ?_
  intro X1 hb1 hk1
  have HS1:Hid (DoS W X1 (w.heap.size+1) (.pointer (some ⟨g2,0,none⟩)) (w.heap.size+1+1) (.bool lo)):=⟨hb1,(HN2.out.drewN 1).kp hk1 (by show ¬w.heap.size+1+1=w.heap.size+1;omega),(Kp.refl _ _).drew.trans (hk1.mono (fun i _ e=>.inl e))⟩
  refine hK.out _ _ HS1.out (fun hHeld=>?_)
  clear hK K hb1 hk1
  (try simp only[Act.put])
  refine wpH_step (i:=3) (by kernel_rfl) rfl rfl (fun K hK=>?_)
  refine wp_store_var 4 (.tmp 5) (.tmp 36) rfl (w.heap.size+1+1) rfl (.bool lo) rfl rfl 4 (.bool lo) HS1.out.bb (by kernel_rfl) ?_
  intro X2 hb2 hk2
  have HS2:Hid (DoS W X2 (w.heap.size+1) (.pointer (some ⟨g2,0,none⟩)) (w.heap.size+1+1) (.bool lo)):=⟨HS1.out.ba.kp hk2 (by show ¬w.heap.size+1=w.heap.size+1+1;omega),hb2,HS1.out.kp.trans (hk2.mono (fun i _ e=>.inr e))⟩
  refine hK.out _ _ HS2.out (fun _=>?_)
  clear hK K hb2 hk2 HS1
  (try simp only[Act.put])
  refine wpAnyH_done (by kernel_rfl) ?_ _
  refine NoPanic.normal ?_
  go_wp2_with fail
  have hne:∀i,i=w.heap.size+1∨i=w.heap.size+1+1->¬i=D:=fun i hi=>by have:=HDD.out;have:=HGS.out;have:=HS0.out.1;omega
  have hD2:X2.heap[D]? = some (.deferred (some [])):=(HS2.out.kp.block D (Array.getElem?_eq_some_iff.1 HDf.out).1 (fun e=>hne D e rfl)).trans HDf.out
  refine⟨by simp,.inl ⟨_,_,rfl,run_takeDeferred hD2,?_⟩⟩
  have q1:Blk (X2.putObj D (.deferred none)) (w.heap.size+1) [.pointer (some ⟨g2,0,none⟩)] 24:=HS2.out.ba.kp putObj_self (fun e=>hne _ (.inl rfl) e)
  have q2:Blk (X2.putObj D (.deferred none)) (w.heap.size+1+1) [.bool lo] 4:=HS2.out.bb.kp putObj_self (fun e=>hne _ (.inr rfl) e)
  have HGi:GridIn (X2.putObj D (.deferred none)) (fun i=>w.heap.size<=i) g2 M:=by
   have g1:GridIn W (fun i=>(Z i/\i≠w.heap.size+1+1)) g2 M:=HB.out.gi
   have hzz:∀i,Z i->i=w.heap.size+1+1∨i=g2∨w3.heap.size+2<=i:=fun i hi=>(HB.out.zl i hi).2
   have hg3:=HS0.out.1
   have hn1:∀i,(Z i/\i≠w.heap.size+1+1)->i≠w.heap.size+1:=fun i hi e=>by rcases hzz i hi.1 with q|q|q <;> have:=HGS.out <;> omega
   have g2':GridIn X2 (fun i=>(Z i/\i≠w.heap.size+1+1)) g2 M:=g1.far' HS2.out.kp (fun i hi e=>by rcases e with e|e;exact hn1 i hi e;exact hi.2 e)
   have hnD:∀i,(Z i/\i≠w.heap.size+1+1)->¬i=D:=fun i hi e=>by rcases hzz i hi.1 with q|q|q <;> have:=HGS.out <;> have:=HDD.out <;> omega
   exact(g2'.far' putObj_self hnD).mono (fun i hi=>by rcases hzz i hi.1 with q|q|q <;> have:=HGS.out <;> omega)
  refine⟨.tuple #[.pointer (some ⟨g2,0,none⟩),.bool lo],?res,g2,M,by rw[HLs.out],HGi,HB.out.ok,fun y=>?_,by have:=HS0.out.1;omega,?_⟩
  case res=>
   have c1:(X2.putObj D (.deferred none)).cell? ⟨w.heap.size+1,0,none⟩=some (.pointer (some ⟨g2,0,none⟩)):=q1.cell rfl
   have c2:(X2.putObj D (.deferred none)).cell? ⟨w.heap.size+1+1,0,none⟩=some (.bool lo):=q2.cell rfl
   rw[results_cells2 rfl]
   go_simp
  ·rw[HB.out.mem y,List.take_length,brL_mem,brL_mem]
   exact⟨fun ⟨x,h1,h2⟩=>⟨x,(HKm.out x).1 h1,h2⟩,fun ⟨x,h1,h2⟩=>⟨x,(HKm.out x).2 h1,h2⟩⟩
  ·exact putObj_kp (HB.out.kp.trans' HS2.out.kp (fun i hi e=>by rcases e with e|e <;> omega)) (by have:=HDD.out;have:=HGS.out;have:=HS0.out.1;omega)
end Go.Proofs.YtecjfnkakodebaaGreatDoor
namespace Go.Proofs.YtecjfnkakodebaaGreatDoor
open Go.RowKit Go.Maps Go.Sort Go.Lib
theorem sm_not {w:World} {G:Nat->Prop} {g:Nat} {M:List Cc} (h:GridIn w G g M) {i:Nat} (hG:¬G i):¬Sm w g i:=by
 intro q
 rcases q with q|⟨q,_⟩
 ·exact hG (q ▸ h.1)
 ·obtain⟨_,⟨hb,_⟩|⟨m,D,hb,hFm,_⟩⟩:=h
  ·rw[hb] at q;simp at q
  ·rw[hb] at q
   simp at q
   exact hG (q ▸ hFm)
theorem putL_len {M L:List Cc} {k:Int×Int} {ct:Ct} (hM:M.Pairwise (fun x y=>x.1≠y.1)) (hs:∀y∈M,y∈L) (hk:(k,ct)∈L):(putL M k ct).length<=L.length:=by
 haveI:DecidableEq Cc:=fun a b=>Classical.propDecidable _
 refine nodup_le _ _ ?_ (fun y hy=>?_)
 ·unfold putL
  refine List.nodup_cons.2 ⟨fun q=>?_,?_⟩
  ·have:=of_decide_eq_true (List.mem_filter.1 q).2
   exact this rfl
  ·exact(List.Pairwise.filter _ hM).imp (fun {x y} q e=>q (by rw[e]))
 ·rcases(putL_mem y).1 hy with e|⟨e,_⟩
  ·rw[e];exact hk
  ·exact hs y e
structure Cl (w:World) (mv:Option Nat) (L:List Cc) (wr:World) (rem M:List Cc):Prop where
 rg:GRg wr w.heap.size mv (w.heap.size+1) rem
 gi:GridIn wr (fun i=>w.heap.size<=i/\i≠w.heap.size+1) w.heap.size M
 kp:Kp w wr Nul
 sub:∀x,x∈rem->x∈L
 mem:∀y,y∈M↔y∈L/\y∉rem
theorem clone_at (g:Nat) (L:List Cc) (w:World) (hg:GI 0 w g L) (hL:Ok17 L) :
  Calls Tryz.prog 27 #[.pointer (some ⟨g,0,none⟩)] w fun e w'=>∃M,e=.returned (.pointer (some ⟨w.heap.size,0,none⟩))/\GridIn w' (fun i=>w.heap.size<=i) w.heap.size M/\(∀y,y∈M↔y∈L)/\Kp w w' Nul:=by
 obtain⟨mv,bg,_⟩:=gi_len hg
 have HNew:Hid (∀w,Calls Tryz.prog 32 #[] w fun e w'=>e=.returned (.pointer (some ⟨w.heap.size,0,none⟩))/\w'=w.alloc (.cells #[.map none] 96)):=new_at
 have HG:Hid (GI 0 w g L):=hg
 have HOk:Hid (Ok17 L):=hL
 have HBg:Hid (Blk w g [.map mv] 96):=bg
 have hng:∀(b:Nat) (wq:World),(binOp .eql 24 (.pointer (some ⟨b,0,none⟩)) (.pointer none)).run Tryz.prog wq=.ok (.bool false) wq:=fun b wq=>by simp[go_sem]
 clear hg hL bg
 go_enter Tryz.func27,Tryz.ntmps27
 go_wp2_with fail
 refine(HNew.out w).mono ?_
 rintro e W0 ⟨rfl,hW0⟩
 have k0:Kp w W0 Nul:=by rw[hW0];exact(Kp.refl _ _).alloc _
 have b0:Blk W0 w.heap.size [.map none] 96:=by rw[hW0];exact Blk.new w [.map none] _
 have s0:W0.heap.size=w.heap.size+1:=by rw[hW0,World.size_alloc]
 clear hW0
 have HLow:Hid (GridIn W0 (fun b=>b<w.heap.size) g L):=HG.out.low.kp k0
 have HBg2:Hid (Blk W0 g [.map mv] 96):=HBg.out.kp k0 (fun x=>x)
 have c0:W0.cell? ⟨g,0,none⟩=some (.map mv):=HBg2.out.cell rfl
 have HB0:Hid (Blk W0 w.heap.size [.map none] 96):=b0
 have HK0:Hid (Kp w W0 Nul):=k0
 have HS0:Hid (W0.heap.size=w.heap.size+1):=s0
 clear k0 b0 s0
 go_wp2_with (first
  | (at_range;refine wpList_range_grid _ rfl _ rfl g L mv w.heap.size rfl HLow.out HBg2.out ?_;intro w0 hrg0 hg0 hs0)
  | fail)
 have HStart:Hid (Cl w mv L w0 L []):=by
  have k0:Kp W0 w0 Nul:=Kp.of_grown hg0 (fun i e=>by cases e)
  rw[HS0.out] at hrg0
  refine⟨hrg0,⟨⟨Nat.le_refl _,by omega⟩,.inl ⟨HB0.out.kp k0 (fun x=>x),rfl⟩⟩,HK0.out.trans k0,fun x h=>h,fun y=>⟨fun h=>by simp at h,fun h=>absurd h.1 h.2⟩⟩
 have hS0:=HS0.out
 rw[hS0]
 clear hrg0 hg0 hs0 c0 HLow HBg2 HB0 HK0 HS0 hS0 HNew
 go_frame
 go_loopw[] (fun wr=>∃rem M,Cl w mv L wr rem M) (fun wr=>glen wr mv (w.heap.size+1))
 case atStart=>exact⟨L,[],HStart.out⟩
 case round=>
  clear HStart
  obtain⟨rem,M,hcl⟩:=hrel
  have HCl:Hid (Cl w mv L wr rem M):=hcl
  have HRG:Hid (GRg wr w.heap.size mv (w.heap.size+1) rem):=hcl.rg
  clear hcl
  go_wp2_with (first
   | (at_next;refine wpList_next_grid _ rfl _ rfl w.heap.size mv (w.heap.size+1) rem rfl HRG.out (by omega) ?_ ?_)
   | fail)
  ·intro hr0
   have HE:Hid (∃M,GridIn wr (fun i=>w.heap.size<=i) w.heap.size M/\(∀y,y∈M↔y∈L)/\Kp w wr Nul):=⟨M,GridIn.mono HCl.out.gi (fun _ h=>h.1),fun y=>by rw[HCl.out.mem,hr0];simp,HCl.out.kp⟩
   clear hr0
   go_wp2_with fail
   go_ret
   first
   | exact⟨_,rfl,HE.out.choose_spec⟩
   | exact HE.out
  ·intro c s ct sl w1 hmem hin hrg1 hlt1 hgr1 hsz1 hen
   have kr:Kp wr w1 (fun i=>i=w.heap.size+1):=Kp.of_grown hgr1 (fun i e=>by cases e;rfl)
   have k1:Kp w w1 Nul:=HCl.out.kp.trans' kr (fun i hi e=>by have:i=w.heap.size+1:=e;omega)
   have g1:GridIn w1 (fun i=>w.heap.size<=i/\i≠w.heap.size+1) w.heap.size M:=HCl.out.gi.far' kr (fun i hi e=>hi.2 e)
   have hmL:=HCl.out.sub _ hmem
   have hvc:=HOk.out.at' _ hmL
   rw[vC_iff] at hvc
   simp only at hvc
   obtain⟨X2,hX2⟩:∃X2,(w1.alloc (.cells #[.int .i64 0,.int .i64 0] 32)).alloc (.cells zC21.toArray 50)=X2:=⟨_,rfl⟩
   obtain⟨X3,hX3⟩:∃X3,X2.setCells w1.heap.size 0 [.int .i64 c,.int .i64 s]=X3:=⟨_,rfl⟩
   obtain⟨X4,hX4⟩:∃X4,X3.setCells (w1.heap.size+1) 0 (ct.cells sl)=X4:=⟨_,rfl⟩
   have q2:Kp w1 X2 Nul:=by rw[<- hX2];exact((Kp.refl _ _).alloc _).alloc _
   have a2:Blk X2 w1.heap.size [.int .i64 0,.int .i64 0] 32:=by rw[<- hX2];exact(Blk.new w1 [.int .i64 0,.int .i64 0] _).alloc _
   have c2:Blk X2 (w1.heap.size+1) zC21 50:=by
    have:=Blk.new (w1.alloc (.cells #[.int .i64 0,.int .i64 0] 32)) zC21 50
    rw[World.size_alloc] at this
    rw[<- hX2];exact this
   have a3:Blk X3 w1.heap.size [.int .i64 c,.int .i64 s] 32:=by rw[<- hX3];exact heap_setCells_whole (cs:=#[.int .i64 c,.int .i64 s]) a2 rfl
   have c3:Blk X3 (w1.heap.size+1) zC21 50:=by rw[<- hX3];exact(heap_setCells_ne (by omega) _ _ _).trans c2
   have a4:Blk X4 w1.heap.size [.int .i64 c,.int .i64 s] 32:=by rw[<- hX4];exact(heap_setCells_ne (by omega) _ _ _).trans a3
   have c4:Blk X4 (w1.heap.size+1) (ct.cells sl) 50:=by rw[<- hX4];exact heap_setCells_whole (cs:=(ct.cells sl).toArray) c3 (by simp)
   have q4:Kp w1 X4 Nul:=(q2.trans' (hX3 ▸ setCells_kp (fun i=>i=w1.heap.size) rfl _ _ X2) (fun i hi e=>by have:i=w1.heap.size:=e;omega)).trans' (hX4 ▸ setCells_kp (fun i=>i=w1.heap.size+1) rfl _ _ X3) (fun i hi e=>by have:i=w1.heap.size+1:=e;omega)
   have HX3:Hid (((w1.alloc (.cells #[.int .i64 0,.int .i64 0] 32)).alloc (.cells zC21.toArray 50)).setCells w1.heap.size 0 [.int .i64 c,.int .i64 s]=X3):=by show _=_;rw[hX2];exact hX3
   have HX4:Hid (X3.setCells (w1.heap.size+1) 0 (ct.cells sl)=X4):=hX4
   have T2:Hid (((w1.alloc (.cells #[.int .i64 0,.int .i64 0] 32)).alloc (.cells zC21.toArray 50)).there w1.heap.size 0 2):=by rw[hX2];exact there_of_block a2 _ _ (by simp)
   have T3:Hid (X3.there (w1.heap.size+1) 0 21):=there_of_block c3 _ _ (by simp)
   have OS:Hid (sl.oneCell'=true):=hin.one
   have HQ4:Hid (Kp w1 X4 Nul):=q4
   have HA4:Hid (Blk X4 w1.heap.size [.int .i64 c,.int .i64 s] 32):=a4
   have HC4:Hid (Blk X4 (w1.heap.size+1) (ct.cells sl) 50):=c4
   have HG1:Hid (GRg w1 w.heap.size mv (w.heap.size+1) (rem.filter (fun x=>decide (x.1≠(c,s))))):=by show GRg _ _ _ _ _;simpa using hrg1
   have HLT:Hid (glen w1 mv (w.heap.size+1)<glen wr mv (w.heap.size+1)):=hlt1
   have HSZ:Hid (w.heap.size+1<w1.heap.size):=by show _<_;have:=HRG.out.lt;omega
   have HGi:Hid (GridIn w1 (fun i=>w.heap.size<=i/\i≠w.heap.size+1) w.heap.size M):=g1
   have HK1:Hid (Kp w w1 Nul):=k1
   have HML:Hid (((c,s),ct)∈L):=hmL
   have HMR:Hid (((c,s),ct)∈rem):=hmem
   have HI:Hid (I64 c/\I64 s):=by show _/\_;unfold I64;omega
   have HGd:Hid (Gd ct):=HOk.out.gd _ hmL
   have HCp:Hid (∀wq,Kp X4 wq Nul->Calls Tryz.prog 47 #[.agg (ct.cells sl).toArray] wq fun e w'=>∃sl' fp,e=.returned (ct.val sl')/\Own w' wq.heap.size sl' ct.t fp/\Kp wq w' Nul):=fun wq q=>by
    have h:=gCopy_at ct sl (fun b=>b<w.heap.size) wq HGd.out.x HGd.out.size HGd.out.ok (hin.kp (q4.trans q) (fun _ _ x=>x))
    rw[HGd.out.cp] at h
    exact h.mono fun e w' ⟨sl',fp,h1,h2,h3⟩=>⟨sl',fp,h1,h2,Kp.of_below h3⟩
   have HKeep:Hid (∀wq sl',Kp X4 wq Nul->NdIn wq (fun i=>w.heap.size<=i/\i≠w.heap.size+1) sl' ct.t->Calls Tryz.prog 46 #[.pointer (some ⟨w.heap.size,0,none⟩),.agg #[.int .i64 c,.int .i64 s],ct.val sl'] wq fun e w'=>e=.returned (.tuple #[])/\GridIn w' (fun i=>w.heap.size<=i/\i≠w.heap.size+1) w.heap.size (putL M (c,s) ct)/\Km w.heap.size wq w'):=fun wq sl' q hi=>by
    have hlen:=putL_len (k:=(c,s)) (ct:=ct) HGi.out.once' (fun y hy=>((HCl.out.mem y).1 hy).1) HML.out
    have hll:=HOk.out.len
    have hsz:=q.size
    have hs4:=HC4.out.lt
    have hs1:=HSZ.out
    exact keep_m _ w.heap.size c s HI.out.1 HI.out.2 ct sl' M wq (HGi.out.kp (HQ4.out.trans q)) (by omega) hi (fun i hi=>⟨by omega,by omega⟩)
   clear hrg1 hlt1 hgr1 hsz1 hmem hin hX2 hX3 hX4 q2 a2 c2 a3 c3 a4 c4 q4 k1 kr g1 hmL hvc
   go_wp2_with (first
    | (refine wpList_store_to rfl 32 (.tmp 4) (.tmp 17) rfl w1.heap.size 0 _ rfl rfl T2.out infoAddr2 (by simp[Value.oneCell']) X3 HX3.out ?_)
    | (refine wpList_store_to rfl 50 (.tmp 5) (.tmp 18) rfl (w1.heap.size+1) 0 _ rfl rfl T3.out infoContent (ct.one OS.out) X4 HX4.out ?_)
    | fail)
   refine wp_region_but (fun w':World=>Kp X4 w' Nul) 4 (by kernel_rfl) ((Kp.refl _ _).drew) (fun hHeld=>?_)
   refine wpBut_takes (i:=0) (v:=.pointer (some ⟨w.heap.size,0,none⟩)) (some 19) rfl rfl (by kernel_rfl) (fun _ _ _ h=>h) (Or.inl ⟨by rfl,?_⟩) hHeld ?_
   ·intro w' hSw;clear hSw;go_simp
   simp only[Act.put,Sz0,Sz1,Sz2]
   refine wpBut_takes (i:=1) (v:=.agg #[.int .i64 c,.int .i64 s]) (some 20) rfl rfl (by kernel_rfl) (fun _ _ _ h=>h) (Or.inl ⟨by rfl,fun w' hSw=>exec_load_row 32 (.tmp 4) rfl w1.heap.size 0 rfl [.int .i64 c,.int .i64 s] _ (blk_range (HA4.out.kp hSw (fun x=>x))) Tryz.underlying32 rfl infoAddr2'⟩) hHeld ?_
   simp only[Act.put,Sz0,Sz1,Sz2]
   refine wpBut_step (i:=2) (by kernel_rfl) rfl rfl (fun K hK=>?_)
   unfold Oper.wp
   rw[exec_load_row 50 (.tmp 5) rfl (w1.heap.size+1) 0 rfl (ct.cells sl) _ (blk_range (HC4.out.kp ((Kp.refl X4 Nul).drew) (fun x=>x))) Tryz.underlying50 rfl infoContent]
   refine hK.out _ _ (fun _=>(Kp.refl X4 Nul).drew) (fun _=>?_)
   clear hK K
   (try simp only[Act.put,List.setIfInBounds_toArray])
   refine wpBut_step (i:=3) (by kernel_rfl) rfl rfl (fun K hK=>?_)
   go_simp
   refine(HCp.out _ ((Kp.refl X4 Nul).drew)).mono ?_
   rintro e v1 ⟨sl',fp,rfl,hown,hk2⟩
   have L1:Hid (Kp X4 v1 Nul):=(Kp.refl X4 Nul).drew.trans hk2
   have HN1:Hid (NdIn v1 (fun i=>w.heap.size<=i/\i≠w.heap.size+1) sl' ct.t):=hown.own.isIn (fun b hb=>by
    have h1:X4.heap.size<=b:=(hown.new b hb).1
    have hs4:=HC4.out.lt
    have hs1:=HSZ.out
    exact⟨by omega,by omega⟩)
   refine hK.out _ _ (fun _=>L1.out) (fun _=>?_)
   clear hK K hk2 hown hHeld
   (try simp only[Act.put,Sz0,Sz1,Sz2])
   refine wpBut_step (i:=4) (by kernel_rfl) rfl rfl (fun K hK=>?_)
   go_simp
   refine(HKeep.out v1 sl' L1.out HN1.out).mono ?_
   rintro e v2 ⟨rfl,hg2,hkm⟩
   have HEND:Hid (Cl w mv L v2 (rem.filter (fun x=>decide (x.1≠(c,s)))) (putL M (c,s) ct)/\glen v2 mv (w.heap.size+1)<glen wr mv (w.heap.size+1)):=by
    have gv:=HGi.out.kp (HQ4.out.trans L1.out)
    have kk:=hkm.kp
    have kw:=HQ4.out.trans L1.out
    have no:∀i,i<w.heap.size+2->i≠w.heap.size->¬Sm v1 w.heap.size i:=fun i hi hn=>sm_not gv (fun q=>by have:=q.1;have:=q.2;omega)
    have hs1:=HSZ.out
    have hbl:Below w.heap.size w1 v2:=⟨kk.os.trans kw.os,kk.tape.trans kw.tape,kk.output.trans kw.output,Nat.le_trans kw.size kk.size,fun i hi=>(kk.block i (by have:=kw.size;omega) (no i (by omega) (by omega))).trans (kw.block i (by omega) (fun x=>x))⟩
    have hr:v2.heap[w.heap.size+1]? = w1.heap[w.heap.size+1]?:=(kk.block _ (by have:=kw.size;omega) (no _ (by omega) (by omega))).trans (kw.block _ (by omega) (fun x=>x))
    refine⟨⟨HG1.out.keep hbl hr,hg2,(HK1.out.trans kw).trans' kk (fun i hi=>no i (by omega) (by omega)),fun x hx=>HCl.out.sub x (List.mem_filter.1 hx).1,fun y=>?_⟩,by rw[HG1.out.glen hbl hr];exact HLT.out⟩
    rw[putL_mem,HCl.out.mem]
    constructor
    ·rintro(e|⟨⟨e1,e2⟩,_⟩)
     ·rw[e]
      exact⟨HML.out,fun q=>of_decide_eq_true (List.mem_filter.1 q).2 rfl⟩
     ·exact⟨e1,fun q=>e2 (List.mem_filter.1 q).1⟩
    ·rintro⟨e1,e2⟩
     by_cases e:y.1=(c,s)
     ·left
      have hy:((c,s),y.2)∈L:=by rw[<- e];exact e1
      have:=once_eq HG.out.once hy HML.out
      exact Prod.ext e this
     ·exact .inr ⟨⟨e1,fun q=>e2 (List.mem_filter.2 ⟨q,decide_eq_true e⟩)⟩,e⟩
   refine hK.out _ _ (fun h=>absurd rfl h) (fun _=>?_)
   clear hK K hg2 hkm
   (try simp only[Act.put,Sz0,Sz1,Sz2])
   refine wpBut_done (by kernel_rfl) ?_
   go_wp2_with fail
   go_roundw
   case rel=>exact⟨_,_,HEND.out.1⟩
   case measure=>exact HEND.out.2
end Go.Proofs.YtecjfnkakodebaaGreatDoor
