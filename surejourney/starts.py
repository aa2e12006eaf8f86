"""The minutes at which to start: the last one that's in time, and those that are just in time for a departure."""

from surejourney.outlooks import by_cars_alone, sure_from


# for each departure when one must be ready at a place to be just ready for it; below 0 where there's no such minute
def minutes_just_in_time(outlook, place):
    ready = outlook.ways.ready[place]
    return [departure.leaves - ready[departure.origin] for departure in outlook.net.departures]


# The last minute from which what's sure isn't after the limit; below 0 if there's none. What's sure is reached by cars
# alone or is a departure's worth, so it's the last of the minutes till which one of these is open.
def last_start(outlook, k, limit, place):
    latest = limit - outlook.ways.coming[place][outlook.goal]
    for minute, worth in zip(minutes_just_in_time(outlook, place), outlook.worths[k]):
        if worth <= limit:
            latest = max(latest, minute)
    return latest


def profile_minutes(outlook, k, place):
    minutes = sorted(set(minutes_just_in_time(outlook, place)))
    return [minute for minute in minutes if minute >= 0 and is_worth_telling(outlook, k, minute, place)]


# Where nothing is sure that's not sooner than by cars alone either, for then there's no way by cars.
def is_worth_telling(outlook, k, minute, place):
    best = sure_from(outlook, k, minute, place)
    if best >= by_cars_alone(outlook, minute, place):
        return False
    return sure_from(outlook, k, minute + 1, place) > best
