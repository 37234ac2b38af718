package desk_test

import (
	"math/rand"
	"runtime"
	"strconv"
	"strings"
	"sync"
	"testing"

	"quadrille/api"
	"quadrille/desk"
)

// R3: what is handed in is not kept. R4: the same is answered each time.

// held is how many bytes are in use.
func held() uint64 {
	runtime.GC()
	var m runtime.MemStats
	runtime.ReadMemStats(&m)
	return m.HeapAlloc
}

// Of a line with a put, done or gathered, no more is kept than what it says.
func TestLinesAreNotKept(t *testing.T) {
	d := desk.New()
	was := held()
	for i := range 1000 {
		at := string(rune('A'+i%16)) + strconv.Itoa(1+i/16)
		does(t, d, padded("", 60000)+"put "+at+` ="some text"&"`+at+`"`)
	}
	does(t, d, "begin")
	for i := range 256 {
		does(t, d, padded("", 60000)+"put A"+strconv.Itoa(1+i)+` ="another text"`)
	}
	if more := int64(held()) - int64(was); more > 20<<20 {
		t.Errorf("R3: behind 1256 short puts %d bytes more are held", more)
	}
	does(t, d, "end")
	says(t, d, "get A1", "another text")
	says(t, d, "get B1", "some textB1")
}

// However many puts are gathered, no more are kept than are told apart.
func TestGatheredPutsAreBounded(t *testing.T) {
	d := deskOf(t, "begin")
	was := held()
	for range 50000 {
		does(t, d, "put A1 "+strings.Repeat("x", 1000))
	}
	if more := int64(held()) - int64(was); more > 20<<20 {
		t.Errorf("behind 50000 puts that were gathered %d bytes more are held", more)
	}
	ends(t, d, api.ErrMany, api.MaxBatch)
}

// Desks side by side have nothing to do with each other.
func TestSideBySide(t *testing.T) {
	r := chance{rand.New(rand.NewSource(7))}
	var script []string
	for range 300 {
		script = append(script, r.line())
	}
	want, _ := desk.Run(strings.Join(script, "\n"))
	var all sync.WaitGroup
	other := make([]string, 8)
	for i := range other {
		all.Go(func() {
			for range 5 {
				if got, bad := desk.Run(strings.Join(script, "\n")); got != want || bad.Code != api.OK || len(desk.Names()) != 25 {
					other[i] = got
				}
			}
		})
	}
	all.Wait()
	for _, got := range other {
		if got != "" {
			t.Errorf("R4: the same script, another answer: %s", short(got))
		}
	}
}
