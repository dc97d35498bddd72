package engine_test

import (
	"fmt"
	"math/rand/v2"
	"strings"
	"testing"

	"haversack/api"
	"haversack/disk"
	"haversack/engine"
)

// keeper does commits on an engine whose disk may stop and crash, and knows which states may be there behind that: those
// behind each commit that was done, and that of the commit which was the first to be told that the disk has stopped.
type keeper struct {
	t       *testing.T
	note    string
	tenants []api.Tenant
	d       *disk.Disk
	g       *engine.Engine
	states  []state // by the numbers of the commits behind which they are
	least   int     // so many commits at least are there behind a crash
	perhaps state
}

func newKeeper(t *testing.T, note string, room int, l []api.Tenant) *keeper {
	t.Helper()
	k := &keeper{t: t, note: note, tenants: l, d: newDisk(t, room), states: []state{{}}}
	k.g = opened(t, k.d, l)
	return k
}

func (k *keeper) fail(form string, more ...any) {
	k.t.Helper()
	k.t.Errorf("%s: %s", k.note, fmt.Sprintf(form, more...))
}

func (k *keeper) add(form string, more ...any) { k.note += fmt.Sprintf(form, more...) + ", " }

func (k *keeper) state() state { return k.states[len(k.states)-1] }

// commit is one of a tenant's own, that writes these; what is held against it is that it is refused only if the disk
// does so.
func (k *keeper) commit(tenant string, writes ...api.Write) api.Errno {
	k.t.Helper()
	k.add("a commit of %d", len(writes))
	n := begin(k.t, k.g, tenant)
	stages(k.t, k.g, n, writes...)
	at, e := k.g.Commit(n)
	next := k.state().changed(writes)
	switch {
	case e == api.OK:
		if at != len(k.states) {
			k.fail("Commit: %d, not %d", at, len(k.states))
		}
		k.states = append(k.states, next)
	case at != 0 || e != api.ErrDiskDown || !k.d.Down():
		k.fail("Commit: %d, %d", at, e)
	case k.perhaps == nil:
		k.perhaps = next
	}
	k.look()
	return e
}

// settles is a Flush or a Compact.
func (k *keeper) settles(what string, e api.Errno) {
	k.t.Helper()
	k.add("%s", what)
	if e == api.OK && k.g.Safe() != k.g.Now() || e != api.OK && (e != api.ErrDiskDown || !k.d.Down()) {
		k.fail("%s: %d, Safe %d, Now %d", what, e, k.g.Safe(), k.g.Now())
	}
	k.look()
}

// look holds what the engine tells against what was done.
func (k *keeper) look() {
	k.t.Helper()
	now := len(k.states) - 1
	if k.g.Now() != now || k.g.Safe() < k.least || k.g.Safe() > now {
		k.fail("Now %d, Safe %d; %d were done, %d were safe", k.g.Now(), k.g.Safe(), now, k.least)
	}
	k.least = k.g.Safe()
	if !same(k.g.Dump(), k.state().list()) {
		k.fail("the state is %+v, not %+v", k.g.Dump(), k.state())
	}
	for _, x := range k.tenants {
		if u, e := k.g.Use(x.Name); u != k.state().use(x.Name) || e != api.OK {
			k.fail("Use(%q): %+v, %d", x.Name, u, e)
		}
	}
}

// twin goes its own ways from here on: its disk is another one.
func (k *keeper) twin() *keeper {
	out := *k
	out.d = k.d.Clone()
	out.g = nil
	out.states = append([]state{}, k.states...)
	return &out
}

func (k *keeper) crash(choices ...int) {
	k.add("crash %d", choices)
	k.d.Crash(choices...)
	k.g = nil
}

// open opens the engine again, if the disk does not stop: its state must be one that may be there.
func (k *keeper) open() bool {
	k.t.Helper()
	g, e := engine.Open(k.d, k.tenants)
	if e == api.ErrDiskDown && g == nil && k.d.Down() {
		k.add("Open that is stopped")
		return false
	}
	if e != api.OK {
		k.fail("Open: %d", e)
		return false
	}
	k.add("Open")
	k.g = g
	if k.perhaps != nil {
		k.states = append(k.states, k.perhaps)
		k.perhaps = nil
	}
	now := g.Now()
	if now < k.least || now >= len(k.states) {
		k.fail("%d commits are there, %d were safe, there were %d", now, k.least, len(k.states)-1)
		return false
	}
	if g.Safe() != now || len(g.Txns()) > 0 {
		k.fail("Safe %d, Now %d, Txns %d", g.Safe(), now, g.Txns())
	}
	k.states = k.states[:now+1]
	k.look()
	return true
}

// again crashes the disk right behind an Open, and opens it: what was there is there again.
func (k *keeper) again(choices ...int) {
	k.t.Helper()
	now := k.g.Now()
	k.crash(choices...)
	if k.open() && k.g.Now() != now {
		k.fail("%d commits are there, %d were there ahead", k.g.Now(), now)
	}
}

// goOn does some commits and crashes more.
func (k *keeper) goOn(choices ...int) {
	k.t.Helper()
	k.commit("t", has(key("t", "on", "a"), "on"))
	k.settles("Flush", k.g.Flush())
	k.commit("u", has(key("u", "on", "b"), "and on"))
	k.rise(choices...)
	k.settles("Compact", k.g.Compact())
	k.commit("t", has(key("t", "on", "c"), "further"))
	k.rise(choices...)
	k.again(choices...)
}

// rise crashes the disk, and opens the engine.
func (k *keeper) rise(choices ...int) {
	k.t.Helper()
	k.crash(choices...)
	k.open()
}

// script is a run of commits that flushes and compacts now and then.
func script(k *keeper) {
	k.t.Helper()
	a, b, c := key("t", "x", "a"), key("t", "x", "b"), key("u", "y", "c")
	k.commit("t", has(a, "one"))
	k.commit("t", has(b, "two"), gone(a))
	k.settles("Flush", k.g.Flush())
	k.commit("u", has(c, "three"))
	k.settles("Compact", k.g.Compact())
	k.commit("t", has(a, "four"))
	k.commit("u", gone(c))
	k.settles("Compact", k.g.Compact())
	k.settles("Compact", k.g.Compact())
	k.commit("t", has(a, strings.Repeat("long ", 1638)), has(b, strings.Repeat("long ", 1638)))
	k.commit("t", has(a, strings.Repeat("l0ng ", 1638)), has(b, ""))
	k.commit("u", has(c, "eight"))
	k.settles("Flush", k.g.Flush())
	k.commit("u", has(c, "nine"))
	k.commit("t", gone(a), gone(b))
	k.settles("Compact", k.g.Compact())
	k.commit("t", has(b, "eleven"))
}

var someChoices = [][]int{{}, {1, 1, 1}, {2, 2, 2}, {3, 40, 3}, {1000, 1000, 1000}, {5, -9, -9}, {719, 719, 719}, {1, -100, 7}, {0, 5039, 5039}, {5039, 0, 60}}

func TestP21_8WhereverTheDiskStops(t *testing.T) {
	whole := newKeeper(t, "", api.MaxRoom, plenty("t", "u"))
	first := whole.d.Steps()
	script(whole)
	for steps := range whole.d.Steps() - first + 1 {
		k := newKeeper(t, fmt.Sprintf("%d steps: ", steps), api.MaxRoom, plenty("t", "u"))
		k.d.Stop(steps)
		script(k)
		for _, choices := range someChoices {
			c := k.twin()
			c.crash(choices...)
			if !c.open() {
				continue
			}
			c.again(choices...)
			c.goOn(choices...)
		}
	}
}

// A crash that comes on its own, of all that is not safe.
func TestP21_8ACrashBehindEachCall(t *testing.T) {
	for _, choices := range someChoices {
		k := newKeeper(t, "", api.MaxRoom, plenty("t", "u"))
		for i := range 30 {
			k.commit("t", has(key("t", "x", fmt.Sprint(i%5)), strings.Repeat("text", i)))
			if i%4 == 3 {
				k.settles("Flush", k.g.Flush())
			}
			if i%7 == 6 {
				k.settles("Compact", k.g.Compact())
			}
			k.crash(choices...)
			k.open()
		}
	}
}

// Opening may be stopped, too, as often as may be: what is there behind the crash is there behind all of them.
func TestP21_8WhereverOpenIsStopped(t *testing.T) {
	for stop := range 60 {
		k := newKeeper(t, fmt.Sprintf("%d steps: ", stop), api.MaxRoom, plenty("t", "u"))
		k.d.Stop(stop)
		script(k)
		for _, choices := range someChoices[:6] {
			settled := k.twin()
			settled.crash(choices...)
			if !settled.twin().open() {
				continue
			}
			other := settled.twin()
			other.open()
			want := other.g.Now()
			for steps := range 12 {
				c := settled.twin()
				for i := range 3 {
					c.d.Stop(steps + i)
					if c.open() {
						break
					}
					c.crash(someChoices[(steps+i)%len(someChoices)]...)
				}
				c.crash()
				if c.open() && c.g.Now() != want {
					c.fail("%d commits are there, not %d", c.g.Now(), want)
				}
			}
		}
	}
}

// Each number of bytes of a commit that a crash may leave: it is there whole, or not at all.
func TestP21_8EachByteOfACommit(t *testing.T) {
	k := newKeeper(t, "", api.MaxRoom, plenty("t", "u"))
	k.commit("t", has(key("t", "x", "a"), "one"))
	k.settles("Flush", k.g.Flush())
	used := k.d.Used()
	k.commit("t", has(key("t", "x", "a"), "two"), has(key("t", "x", "b"), "too"))
	there := 0
	for n := range k.d.Used() - used + 1 {
		for _, choice := range []int{n, -n - 1} {
			c := k.twin()
			c.crash(0, choice)
			c.open()
			there += c.g.Now() - 1
			c.again()
		}
	}
	if there != 1 {
		t.Errorf("the commit is there %d times", there)
	}
}

// An engine that was opened without a crash ahead tells what was done; behind a later crash it is there, too.
func TestP21_8WhatOpenToldIsSafe(t *testing.T) {
	for _, choices := range someChoices {
		k := newKeeper(t, "", api.MaxRoom, plenty("t", "u"))
		for i := range 5 {
			k.commit("t", has(key("t", "x", "a"), fmt.Sprint(i)))
			k.g = opened(t, k.d, k.tenants)
			k.look()
			if k.g.Safe() != i+1 {
				k.fail("Safe %d", k.g.Safe())
			}
			c := k.twin()
			c.crash(choices...)
			c.open()
		}
	}
}

// mixedStep does one of many things.
func (k *keeper) mixedStep(x *rand.Rand) {
	k.t.Helper()
	switch x.IntN(20) {
	case 0, 1:
		k.settles("Flush", k.g.Flush())
	case 2:
		k.settles("Compact", k.g.Compact())
	case 3:
		k.d.Stop(x.IntN(12))
		k.add("Stop")
	case 4:
		k.crash(x.IntN(99), x.IntN(9999)-5000, x.IntN(9999)-5000, x.IntN(99))
		if x.IntN(3) == 0 {
			k.d.Stop(x.IntN(9))
		}
		for !k.open() && !k.t.Failed() {
			k.crash(x.IntN(99), x.IntN(9999)-5000, x.IntN(9999)-5000, x.IntN(99))
		}
	default:
		name := pick(x, "t", "u")
		var l []api.Write
		for i := range 1 + x.IntN(3) {
			// No two of one entry: a transaction's last write would be the only one.
			w := gone(key(name, pick(x, "x", "y"), fmt.Sprintf("%d-%d", i, x.IntN(3))))
			if x.IntN(3) > 0 {
				w = has(w.Key, strings.Repeat(pick(x, "a", "bc"), pick(x, 0, 1, 9, 300, 3000)))
			}
			l = append(l, w)
		}
		k.commit(name, l...)
	}
}

func TestP21_8MixedCallsStopsAndCrashes(t *testing.T) {
	for seed := range uint64(160) {
		x := mixed(5000 + seed)
		k := newKeeper(t, fmt.Sprintf("seed %d: ", seed), api.MaxRoom, plenty("t", "u"))
		for range 100 {
			k.mixedStep(x)
			if t.Failed() {
				return
			}
		}
	}
}

// What a stopped Compact left would take the room of what comes: Open removes it.
func TestP21_8WhatAStoppedCompactLeftTakesNoRoom(t *testing.T) {
	x := mixed(61)
	for steps := range 12 {
		k := newKeeper(t, fmt.Sprintf("%d steps: ", steps), api.MaxRoom, plenty("t", "u"))
		for i := range 9 {
			k.commit("t", has(key("t", "x", fmt.Sprint(i)), noise(x, 8000)))
		}
		k.settles("Flush", k.g.Flush())
		ahead := k.d.Used()
		k.d.Stop(steps)
		k.settles("Compact", k.g.Compact())
		k.rise(5039, 1000000, 1000000)
		if used := k.d.Used(); used > ahead+10000 {
			k.fail("%d bytes, %d ahead of Compact", used, ahead)
		}
	}
}

// Behind all stops and crashes Compact makes the disk small: what they left is gone.
func TestP21_8WhatStopsLeftDoesNotPileUp(t *testing.T) {
	k := newKeeper(t, "", api.MaxRoom, plenty("t", "u"))
	x := mixed(60)
	for i := range 150 {
		k.note = fmt.Sprint("round ", i, ": ")
		k.commit("t", has(key("t", "x", fmt.Sprint(i%3)), noise(x, 8000)))
		k.d.Stop(1 + i%16)
		k.settles("Compact", k.g.Compact())
		k.crash(x.IntN(99), x.IntN(9999), -x.IntN(9999))
		if !k.open() {
			return
		}
		if most := 200000; k.d.Used() > most {
			k.fail("%d bytes are on the disk", k.d.Used())
			return
		}
	}
	compacted(t, k.d, k.g)
	if n := len(k.d.Names()); n > 3 {
		t.Errorf("%d files", n)
	}
}
