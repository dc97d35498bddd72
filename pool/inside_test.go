package pool

import (
	"sync"
	"sync/atomic"
	"testing"
	"time"
)

// places are n chunks that tell where they stand.
func places(n int) [][]byte {
	var l [][]byte
	for i := range n {
		l = append(l, []byte{byte(i)})
	}
	return l
}

// waits tells whether something comes true within some seconds.
func waits(comes func() bool) bool {
	for range 10000 {
		if comes() {
			return true
		}
		time.Sleep(time.Millisecond)
	}
	return false
}

// So many chunks are at work at one time as there are workers: each waits for the others, and all of them come.
func TestWorkersWorkSideBySide(t *testing.T) {
	for workers := 1; workers <= 8; workers++ {
		var there atomic.Int64
		_, ok := sideBySide(places(workers), workers, func(b []byte) ([]byte, bool) {
			there.Add(1)
			return b, waits(func() bool { return there.Load() == int64(workers) })
		})
		if !ok {
			t.Errorf("of %d workers %d came", workers, there.Load())
		}
	}
}

// There are never more at work than there are workers, and nobody is when all is told.
func TestNoMoreWorkersThanAskedFor(t *testing.T) {
	for workers := 1; workers <= 8; workers++ {
		for refused := 4; refused <= 64; refused += 15 { // 64: none
			var lock sync.Mutex
			atWork, most := 0, 0
			count := func(n int) {
				lock.Lock()
				defer lock.Unlock()
				atWork += n
				most = max(most, atWork)
			}
			_, ok := sideBySide(places(64), workers, func(b []byte) ([]byte, bool) {
				count(1)
				defer count(-1)
				time.Sleep(10 * time.Microsecond)
				return b, int(b[0]) != refused
			})
			if ok != (refused == 64) || most > workers || atWork != 0 {
				t.Errorf("%d workers, %d refused: %v, %d at work at most, %d at the end", workers, refused, ok, most, atWork)
			}
		}
	}
}

// Behind a chunk that is refused the same worker does no further one.
func TestWhoIsRefusedEnds(t *testing.T) {
	for refused := range 64 {
		calls := 0
		_, ok := sideBySide(places(64), 1, func(b []byte) ([]byte, bool) {
			calls++
			return b, int(b[0]) != refused
		})
		if ok || calls != refused+1 {
			t.Errorf("chunk %d is refused: %v, %d calls", refused, ok, calls)
		}
	}
}

// Nor do the others: the places that are left are taken as soon as the refusal is seen.
func TestAllEndWhenOneIsRefused(t *testing.T) {
	for range 100 {
		calls := 0
		c := newCrew(places(64), 1, func(b []byte) ([]byte, bool) {
			calls++
			return b, true
		})
		c.refused <- struct{}{} // by somebody else
		taken := make(chan bool)
		go func() {
			well := waits(func() bool { return len(c.places) == 0 })
			c.work()
			taken <- well
		}()
		_, ok := c.collect()
		if !<-taken || ok || calls != 0 {
			t.Fatalf("%v, %d calls", ok, calls)
		}
	}
}

// A refusal that stands beside the end is no less one, whichever of the two is seen first.
func TestRefusedAtTheVeryEnd(t *testing.T) {
	for range 1000 {
		c := newCrew(places(1), 1, func([]byte) ([]byte, bool) { return nil, false })
		c.work()
		if _, ok := c.collect(); ok {
			t.Fatal("a refusal was not seen")
		}
	}
}

// The last one who leaves closes what is told, nobody ahead of that one.
func TestTheLastOneCloses(t *testing.T) {
	for workers := 1; workers <= 8; workers++ {
		c := newCrew(nil, workers, nil)
		for i := range workers {
			select {
			case <-c.done:
				t.Errorf("of %d workers %d closed it", workers, i)
			default:
			}
			c.leave()
		}
		if _, more := <-c.done; more {
			t.Errorf("%d workers have left, and it is open", workers)
		}
	}
}
