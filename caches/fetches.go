package caches

// Waiter is one who waits for a fetch: a child, with the serial and the tag of its own fetch, or a client, with its id.
type Waiter struct {
	Child       int // 0: a client, as the origin is nobody's child
	Serial, Tag int
	Id          int
}

// Fetch is a cache's question to its parent that is not answered yet. Sent is what the cache's clock read when it was sent; those who wait stand in the order in which they came.
type Fetch struct {
	Serial, Sent int
	Waiters      []Waiter
}

// Fetches has the fetches of all caches of a tier.
type Fetches map[Place]Fetch

// Waiting tells how many wait at a cache, for all its fetches together.
func (f Fetches) Waiting(node int) int {
	n := 0
	for at, fetch := range f {
		if at.Node == node {
			n += len(fetch.Waiters)
		}
	}
	return n
}

// Clear lets all fetches of a cache be over, and nobody be answered.
func (f Fetches) Clear(node int) {
	for at := range f {
		if at.Node == node {
			delete(f, at)
		}
	}
}
