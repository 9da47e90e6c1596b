package waitq

import (
	"testing"

	"forelock/api"
	"forelock/mix"
)

// checkShape holds a table's inside against what its calls rely on.
func checkShape(t *testing.T, x *Table) {
	t.Helper()
	stand, due := 0, 0
	met := map[int]bool{}
	for at, lines := range x.buckets {
		for _, l := range lines {
			if met[l.key] || mix.Bucket(l.key, len(x.buckets)) != at {
				t.Fatalf("the line of the key %d lies in bucket %d, or twice", l.key, at)
			}
			met[l.key] = true
			if n := l.queue.Len(); n == 0 || n > x.each {
				t.Fatalf("%d wait for the key %d", n, l.key)
			}
			for ticket, w := range l.queue.All() {
				if w.Key != l.key || x.seats[w.Who] != (seat{l.queue, ticket}) {
					t.Fatalf("%v stands at ticket %d of the key %d, and isn't said to", w, ticket, l.key)
				}
				stand++
				if w.Until != 0 {
					due++
				}
			}
		}
	}
	if len(x.seats) != stand || stand > x.most || x.due.Len() != due {
		t.Fatalf("%d stand, of %d seats; %d are due, of %d", stand, len(x.seats), due, x.due.Len())
	}
}

func TestShapeInLongRuns(t *testing.T) {
	state := uint64(1)
	next := func(n uint64) int {
		state = state*6364136223846793005 + 1442695040888963407
		return int(state >> 33 % n)
	}
	for _, buckets := range []int{1, 3, 50} {
		x := New(buckets, 30, 6)
		for range 4000 {
			who, key, n := next(50), next(9), next(4)
			switch next(8) {
			case 0, 1, 2, 3:
				x.Wait(api.Wait{Who: who, Key: key, Until: uint64(next(60))})
			case 4:
				x.Wake(key, n)
			case 5:
				x.Cancel(who)
			case 6:
				x.Requeue(key, next(9), n)
			case 7:
				for range x.Expire(uint64(next(40))) {
					if n--; n < 0 {
						break
					}
				}
			}
			checkShape(t, x)
		}
	}
}

// Buckets are brought to what the table can need, so that no number asks for more room than there is.
func TestBucketsAreBroughtToTheirRange(t *testing.T) {
	const most = int(^uint(0) >> 1)
	for _, c := range []struct{ buckets, want int }{
		{-most - 1, 1}, {-1, 1}, {0, 1}, {1, 1}, {2, 2}, {1000, 1000}, {api.MaxItems, api.MaxItems}, {api.MaxItems + 1, api.MaxItems}, {most, api.MaxItems},
	} {
		x := New(c.buckets, 5, 5)
		if len(x.buckets) != c.want {
			t.Errorf("New(%d): %d buckets; want %d", c.buckets, len(x.buckets), c.want)
		}
		checkShape(t, x)
	}
}
