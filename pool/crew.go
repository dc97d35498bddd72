package pool

import "sync"

// way: what is made of a chunk; false, if the chunk is refused.
type way func(chunk []byte) ([]byte, bool)

// piece: what was made of the chunk at this place.
type piece struct {
	at    int
	bytes []byte
}

// crew: workers, and the channels between them and the one who waits for them. These have room for all that may come,
// so that no worker ever waits.
type crew struct {
	chunks  [][]byte
	do      way
	places  chan int      // of the chunks that nobody took yet
	done    chan piece    // closed when nobody is at work
	refused chan struct{} // one for each who met a chunk that is refused

	lock   sync.Mutex
	atWork int
}

// sideBySide tells what is made of each chunk, in their order; false, if one is refused.
func sideBySide(chunks [][]byte, workers int, do way) ([][]byte, bool) {
	c := newCrew(chunks, workers, do)
	var all sync.WaitGroup
	for range workers {
		all.Add(1)
		go func() {
			defer all.Done()
			c.work()
		}()
	}
	out, ok := c.collect()
	all.Wait() // who left the work may not have ended yet
	return out, ok
}

func newCrew(chunks [][]byte, workers int, do way) *crew {
	c := &crew{
		chunks:  chunks,
		do:      do,
		places:  make(chan int, len(chunks)),
		done:    make(chan piece, len(chunks)),
		refused: make(chan struct{}, workers),
		atWork:  workers,
	}
	for at := range chunks {
		c.places <- at
	}
	close(c.places)
	return c
}

// work ends at a chunk that is refused, as nothing more is asked for then.
func (c *crew) work() {
	defer c.leave()
	for at := range c.places {
		b, ok := c.do(c.chunks[at])
		if !ok {
			c.refused <- struct{}{}
			return
		}
		c.done <- piece{at: at, bytes: b}
	}
}

// leave lets the last one close what the others told by, too.
func (c *crew) leave() {
	c.lock.Lock()
	defer c.lock.Unlock()
	c.atWork--
	if c.atWork == 0 {
		close(c.done)
	}
}

// collect waits till nobody is at work. That all pieces are there decides, not that a refusal was seen: when the last
// one has left, the refusal may still stand beside the end, and select may take either.
func (c *crew) collect() ([][]byte, bool) {
	out, there := make([][]byte, len(c.chunks)), 0
	for {
		select {
		case p, more := <-c.done:
			if !more {
				return out, there == len(out)
			}
			out[p.at] = p.bytes
			there++
		case <-c.refused:
			c.dismiss()
		}
	}
}

// dismiss takes the places that are left, so that nobody begins a further chunk.
func (c *crew) dismiss() {
	for range c.places {
	}
}
