"""Days told without the program: what a plan does ladle by ladle, all plans of small days, and days like chance."""

from spoilt import is_plain


def is_ladle(thing, least=0):
    return is_plain(thing) and least <= thing <= 10 ** 6


def is_hours(thing, hours):
    return type(thing) is list and len(thing) == hours and all(is_ladle(number) for number in thing)


def is_model_day(thing):
    if type(thing) is not tuple or len(thing) != 3 or type(thing[0]) is not list or type(thing[1]) is not list:
        return False
    hours = len(thing[0])
    if hours not in range(1, 49) or len(thing[1]) not in range(1, 9):
        return False
    for kettle in thing[1]:
        if type(kettle) is not tuple or len(kettle) != 2 or not is_ladle(kettle[0], 1) or not is_hours(kettle[1], hours):
            return False
    return is_hours(thing[0], hours) and is_hours(thing[2], hours)


def mosts_of(day):
    """What each place may take, by hours."""
    return [takes for _, takes in day[1]] + [day[2]]


def is_model_plan(day, thing):
    """Whether a thing is a plan that can be done: it is done, ladle by ladle."""
    hours = len(day[0])
    if type(thing) is not list or len(thing) != len(day[1]) + 1:
        return False
    for numbers in thing:
        if type(numbers) is not list or len(numbers) != hours or not all(is_plain(number) and number >= 0 for number in numbers):
            return False
    held = [0] * len(day[1])
    outside = 0
    for hour in range(hours):
        takes = [numbers[hour] for numbers in thing]
        if any(number > most[hour] for number, most in zip(takes, mosts_of(day))):
            return False
        outside += day[0][hour]
        if takes[0] > outside or any(number > there for number, there in zip(takes[1:], held)):
            return False
        outside -= takes[0]
        held = [there + come - gone for there, come, gone in zip(held, takes, takes[1:])]
        if any(there > room for there, (room, _) in zip(held, day[1])):
            return False
    return True


def all_plans(day):
    """All plans of a small day that can be done."""
    plans = [[[] for _ in mosts_of(day)]]
    for hour in range(len(day[0])):
        begun = (day[0][:hour + 1], [(room, takes[:hour + 1]) for room, takes in day[1]], day[2][:hour + 1])
        longer = []
        for plan in plans:
            for takes in columns([most[hour] for most in mosts_of(day)]):
                tried = [numbers + [number] for numbers, number in zip(plan, takes)]
                if is_model_plan(begun, tried):
                    longer.append(tried)
        plans = longer
    return plans


def columns(mosts):
    """All lists of numbers from 0, each at most as told."""
    if not mosts:
        return [[]]
    return [[number] + rest for number in range(mosts[0] + 1) for rest in columns(mosts[1:])]


def taken_by(plan):
    """What each place of a plan has taken by the end of each hour."""
    return [[sum(numbers[:hour + 1]) for hour in range(len(numbers))] for numbers in plan]


def greatest_taken(day):
    """The most that each place has taken by the end of each hour, by any plan that can be done."""
    taken = [taken_by(plan) for plan in all_plans(day)]
    return [[max(cells) for cells in zip(*rows)] for rows in zip(*taken)]


def most_model_plan(day):
    """The plan that takes most: bounds are lowered till none is too high any more."""
    places, hours = len(day[1]) + 1, len(day[0])
    high = [[10 ** 12] * hours for _ in range(places)]
    changed = True
    while changed:
        changed = False
        for place in range(places):
            for hour in range(hours):
                least = min(
                    (high[place][hour - 1] if hour else 0) + mosts_of(day)[place][hour],
                    sum(day[0][:hour + 1]) if place == 0 else (high[place - 1][hour - 1] if hour else 0),
                    high[place + 1][hour] + day[1][place][0] if place < places - 1 else 10 ** 12)
                if least < high[place][hour]:
                    high[place][hour] = least
                    changed = True
    return [[row[hour] - (row[hour - 1] if hour else 0) for hour in range(hours)] for row in high]


def is_model_paper(day, many, thing):
    """Whether a thing is a paper of so many, told bound by bound."""
    if type(thing) is not list or not all(type(bound) is tuple and len(bound) == 3 for bound in thing):
        return False
    kettles, place, hour, told = len(day[1]), len(day[1]), len(day[0]) - 1, 0
    ended = False
    for word, at, when in thing:
        if ended or type(word) is not str or not is_plain(at) or not is_plain(when) or (at, when) != (place, hour):
            return False
        if word == "begin" and hour == -1:
            ended = True
        elif word == "comes" and place == 0 and hour >= 0:
            told, ended = told + sum(day[0][:hour + 1]), True
        elif word == "takes" and hour >= 0:
            told, hour = told + mosts_of(day)[place][hour], hour - 1
        elif word == "ahead" and hour >= 0 and place > 0:
            place, hour = place - 1, hour - 1
        elif word == "room" and hour >= 0 and place < kettles:
            told, place = told + day[1][place][0], place + 1
        else:
            return False
    return ended and told == many


def hours_by(turns, hours, most):
    return [turns.one_of([0, most, turns.between(0, most), turns.between(0, most)]) for _ in range(hours)]


def day_by(turns, most_kettles=8, most_hours=48, most=40):
    """A day that looks like chance."""
    hours = turns.between(1, most_hours)
    kettles = [(turns.between(1, most), hours_by(turns, hours, most)) for _ in range(turns.between(1, most_kettles))]
    return (hours_by(turns, hours, most), kettles, hours_by(turns, hours, most))


def greatest_day(turns=None):
    """A day of 48 hours and eight kettles; all the greatest numbers where no turns are handed in."""
    if turns is None:
        whole = [10 ** 6] * 48
        return (whole, [(10 ** 6, list(whole)) for _ in range(8)], list(whole))
    return (
        hours_by(turns, 48, 10 ** 6), [(turns.between(1, 10 ** 6), hours_by(turns, 48, 10 ** 6)) for _ in range(8)],
        hours_by(turns, 48, 10 ** 6))


def small_day(turns):
    """A day so small that all its plans can be gone through."""
    hours = turns.between(2, 4)
    kettles = [(turns.between(1, 3), [turns.between(0, 2) for _ in range(hours)]) for _ in range(turns.between(1, 2))]
    return ([turns.between(0, 3) for _ in range(hours)], kettles, [turns.between(0, 3) for _ in range(hours)])


def as_tuples(day):
    """The same day, its lists being tuples."""
    comes, kettles, strikes = day
    return (tuple(comes), tuple((room, tuple(takes)) for room, takes in kettles), tuple(strikes))
